/-
  Plain mathematics of this seat, nothing of the dump: counting the ones of a row of bits ('cnt'), and that the steps of bits.OnesCount64 count the ones of a number below 2^64. No condition.
  bits.OnesCount64, called with any number below 2^64, returns how many ones it has; the world stays as it was. No condition besides.
  succ.selectInWord, called with a number below 2^64 and a k below the count of its ones, returns the place of its k-th one; the world stays as it was. No condition besides.
  (*succ.Bits).Rank and Len over a vector that lies in memory as NewBits makes it ('BitsAt'): Rank answers the ones ahead of a place, or ErrRange; nothing is written. The vector's reading is the one condition.
-/
import Derived.Laws.Bits64
import Derived.Laws.BitsAllLaws
import Derived.Test.YtphjbbbnbmafnabGreatDoorRows
import Derived.WalkKit
import Derived.ProofKit
import Derived.WalkLawsBesides
import Derived.WalkSpells
import Derived.Deep.QuietTactic
import Derived.BigQuiet
namespace Go.Proofs.YtphjbbbnbmafnabGreatDoor

/-- how many of the first n places say yes -/
def cnt (f : Nat → Bool) : Nat → Nat
  | 0 => 0
  | n + 1 => cnt f n + (f n).toNat

theorem cnt_succ (f : Nat → Bool) (n : Nat) : cnt f (n + 1) = cnt f n + (f n).toNat := rfl
theorem cnt_le (f : Nat → Bool) (n : Nat) : cnt f n ≤ n := by
  induction n with
  | zero => simp [cnt]
  | succ n ih => rw [cnt_succ]; have := Bool.toNat_le (f n); omega
theorem cnt_mono (f : Nat → Bool) {m n : Nat} (h : m ≤ n) : cnt f m ≤ cnt f n := by
  induction n with
  | zero => have : m = 0 := by omega
            subst this; exact Nat.le_refl _
  | succ n ih =>
    by_cases e : m = n + 1
    · subst e; exact Nat.le_refl _
    · rw [cnt_succ]; have := ih (by omega); omega
theorem cnt_add (f : Nat → Bool) (m n : Nat) : cnt f (m + n) = cnt f m + cnt (fun i => f (m + i)) n := by
  induction n with
  | zero => simp [cnt]
  | succ n ih => rw [← Nat.add_assoc, cnt_succ, cnt_succ, ih]; omega
theorem cnt_congr {f g : Nat → Bool} {n : Nat} (h : ∀ i, i < n → f i = g i) : cnt f n = cnt g n := by
  induction n with
  | zero => rfl
  | succ n ih => rw [cnt_succ, cnt_succ, ih (fun i hi => h i (by omega)), h n (by omega)]
theorem cnt_false {f : Nat → Bool} {n : Nat} (h : ∀ i, i < n → f i = false) : cnt f n = 0 := by
  induction n with
  | zero => rfl
  | succ n ih => rw [cnt_succ, ih (fun i hi => h i (by omega)), h n (by omega)]; rfl

/-! ### eight bytes -/
def by8 (a b c d e f g h : Nat) : Nat := a + 256 * (b + 256 * (c + 256 * (d + 256 * (e + 256 * (f + 256 * (g + 256 * h))))))

theorem andSplit (x m : Nat) : x &&& m = (x % 256 &&& m % 256) + 256 * (x / 256 &&& m / 256) := by
  have h := Nat.mod_add_div (x &&& m) 256
  rw [show (256 : Nat) = 2 ^ 8 from rfl] at h ⊢
  rw [← Nat.and_div_two_pow, ← Nat.and_mod_two_pow]
  exact h.symm
theorem and_two (a t b u : Nat) (ha : a < 256) (hb : b < 256) : (a + 256 * t) &&& (b + 256 * u) = (a &&& b) + 256 * (t &&& u) := by
  rw [andSplit]
  rw [show (a + 256 * t) % 256 = a from by omega, show (b + 256 * u) % 256 = b from by omega, show (a + 256 * t) / 256 = t from by omega, show (b + 256 * u) / 256 = u from by omega]
theorem and_by8 (a b c d e f g h a' b' c' d' e' f' g' h' : Nat) (ha : a < 256) (hb : b < 256) (hc : c < 256) (hd : d < 256) (he : e < 256) (hf : f < 256) (hg : g < 256)
    (ha' : a' < 256) (hb' : b' < 256) (hc' : c' < 256) (hd' : d' < 256) (he' : e' < 256) (hf' : f' < 256) (hg' : g' < 256) :
    by8 a b c d e f g h &&& by8 a' b' c' d' e' f' g' h' = by8 (a &&& a') (b &&& b') (c &&& c') (d &&& d') (e &&& e') (f &&& f') (g &&& g') (h &&& h') := by
  unfold by8
  rw [and_two _ _ _ _ ha ha', and_two _ _ _ _ hb hb', and_two _ _ _ _ hc hc', and_two _ _ _ _ hd hd', and_two _ _ _ _ he he', and_two _ _ _ _ hf hf', and_two _ _ _ _ hg hg']
theorem by8_of (x : Nat) (hx : x < 18446744073709551616) : ∃ a b c d e f g h, x = by8 a b c d e f g h ∧ a < 256 ∧ b < 256 ∧ c < 256 ∧ d < 256 ∧ e < 256 ∧ f < 256 ∧ g < 256 ∧ h < 256 := by
  refine ⟨x % 256, x / 256 % 256, x / 65536 % 256, x / 16777216 % 256, x / 4294967296 % 256, x / 1099511627776 % 256, x / 281474976710656 % 256, x / 72057594037927936, ?_, ?_⟩
  · unfold by8; omega
  · omega

def s1 (b : Nat) : Nat := (b / 2 &&& 85) + (b &&& 85)
def s2 (b : Nat) : Nat := (b / 4 &&& 51) + (b &&& 51)
def s3 (b : Nat) : Nat := b / 16 + b % 16

theorem half_and : ∀ (b : Fin 256) (c : Fin 2), (b.val / 2 + 128 * c.val) &&& 85 = b.val / 2 &&& 85 := by decide +kernel
theorem quarter_and : ∀ (b : Fin 256) (c : Fin 4), (b.val / 4 + 64 * c.val) &&& 51 = b.val / 4 &&& 51 := by decide +kernel
theorem s1_lt : ∀ b : Fin 256, s1 b.val < 256 ∧ s2 (s1 b.val) < 256 ∧ s2 (s1 b.val) % 16 ≤ 4 ∧ s2 (s1 b.val) / 16 ≤ 4 ∧ s3 (s2 (s1 b.val)) ≤ 8 := by decide +kernel

def c1 (x : Nat) : Nat := (x / 2 &&& 6148914691236517205) + (x &&& 6148914691236517205)
def c2 (x : Nat) : Nat := (x / 4 &&& 3689348814741910323) + (x &&& 3689348814741910323)
def c3 (x : Nat) : Nat := (x / 16 + x) &&& 1085102592571150095

theorem c1_by8 (a b c d e f g h : Nat) (ha : a < 256) (hb : b < 256) (hc : c < 256) (hd : d < 256) (he : e < 256) (hf : f < 256) (hg : g < 256) :
    c1 (by8 a b c d e f g h) = by8 (s1 a) (s1 b) (s1 c) (s1 d) (s1 e) (s1 f) (s1 g) (s1 h) := by
  have hhalf : by8 a b c d e f g h / 2 = by8 (a / 2 + 128 * (b % 2)) (b / 2 + 128 * (c % 2)) (c / 2 + 128 * (d % 2)) (d / 2 + 128 * (e % 2)) (e / 2 + 128 * (f % 2)) (f / 2 + 128 * (g % 2)) (g / 2 + 128 * (h % 2)) (h / 2) := by
    unfold by8; omega
  have hm : (6148914691236517205 : Nat) = by8 85 85 85 85 85 85 85 85 := by decide +kernel
  have q (x y : Nat) (hx : x < 256) : (x / 2 + 128 * (y % 2)) &&& 85 = x / 2 &&& 85 := half_and ⟨x, hx⟩ ⟨y % 2, by omega⟩
  unfold c1
  rw [hhalf, hm, and_by8 _ _ _ _ _ _ _ _ _ _ _ _ _ _ _ _ (by omega) (by omega) (by omega) (by omega) (by omega) (by omega) (by omega) (by omega) (by omega) (by omega) (by omega) (by omega) (by omega) (by omega),
    and_by8 _ _ _ _ _ _ _ _ _ _ _ _ _ _ _ _ ha hb hc hd he hf hg (by omega) (by omega) (by omega) (by omega) (by omega) (by omega) (by omega)]
  rw [q a b ha, q b c hb, q c d hc, q d e hd, q e f he, q f g hf, q g h hg]
  unfold s1 by8; omega

theorem c2_by8 (a b c d e f g h : Nat) (ha : a < 256) (hb : b < 256) (hc : c < 256) (hd : d < 256) (he : e < 256) (hf : f < 256) (hg : g < 256) :
    c2 (by8 a b c d e f g h) = by8 (s2 a) (s2 b) (s2 c) (s2 d) (s2 e) (s2 f) (s2 g) (s2 h) := by
  have hhalf : by8 a b c d e f g h / 4 = by8 (a / 4 + 64 * (b % 4)) (b / 4 + 64 * (c % 4)) (c / 4 + 64 * (d % 4)) (d / 4 + 64 * (e % 4)) (e / 4 + 64 * (f % 4)) (f / 4 + 64 * (g % 4)) (g / 4 + 64 * (h % 4)) (h / 4) := by
    unfold by8; omega
  have hm : (3689348814741910323 : Nat) = by8 51 51 51 51 51 51 51 51 := by decide +kernel
  have q (x y : Nat) (hx : x < 256) : (x / 4 + 64 * (y % 4)) &&& 51 = x / 4 &&& 51 := quarter_and ⟨x, hx⟩ ⟨y % 4, by omega⟩
  unfold c2
  rw [hhalf, hm, and_by8 _ _ _ _ _ _ _ _ _ _ _ _ _ _ _ _ (by omega) (by omega) (by omega) (by omega) (by omega) (by omega) (by omega) (by omega) (by omega) (by omega) (by omega) (by omega) (by omega) (by omega),
    and_by8 _ _ _ _ _ _ _ _ _ _ _ _ _ _ _ _ ha hb hc hd he hf hg (by omega) (by omega) (by omega) (by omega) (by omega) (by omega) (by omega)]
  rw [q a b ha, q b c hb, q c d hc, q d e hd, q e f he, q f g hf, q g h hg]
  unfold s2 by8; omega

def nib (b : Nat) : Prop := b % 16 ≤ 4 ∧ b / 16 ≤ 4
theorem mask15 (x : Nat) : x &&& 15 = x % 16 := Nat.and_two_pow_sub_one_eq_mod x 4
theorem c3_by8 (a b c d e f g h : Nat) (ha : nib a) (hb : nib b) (hc : nib c) (hd : nib d) (he : nib e) (hf : nib f) (hg : nib g) (hh : nib h) :
    c3 (by8 a b c d e f g h) = by8 (s3 a) (s3 b) (s3 c) (s3 d) (s3 e) (s3 f) (s3 g) (s3 h) := by
  unfold nib at *
  have hsum : by8 a b c d e f g h / 16 + by8 a b c d e f g h = by8 (a / 16 + 16 * (b % 16) + a) (b / 16 + 16 * (c % 16) + b) (c / 16 + 16 * (d % 16) + c) (d / 16 + 16 * (e % 16) + d) (e / 16 + 16 * (f % 16) + e) (f / 16 + 16 * (g % 16) + f) (g / 16 + 16 * (h % 16) + g) (h / 16 + h) := by
    unfold by8; omega
  have hm : (1085102592571150095 : Nat) = by8 15 15 15 15 15 15 15 15 := by decide +kernel
  unfold c3
  rw [hsum, hm, and_by8 _ _ _ _ _ _ _ _ _ _ _ _ _ _ _ _ (by omega) (by omega) (by omega) (by omega) (by omega) (by omega) (by omega) (by omega) (by omega) (by omega) (by omega) (by omega) (by omega) (by omega)]
  simp only [mask15]
  have q (x y : Nat) (hx : x % 16 ≤ 4 ∧ x / 16 ≤ 4) : (x / 16 + 16 * (y % 16) + x) % 16 = s3 x := by unfold s3; omega
  have q0 (x : Nat) (hx : x % 16 ≤ 4 ∧ x / 16 ≤ 4) : (x / 16 + x) % 16 = s3 x := by unfold s3; omega
  rw [q a b ha, q b c hb, q c d hc, q d e hd, q e f he, q f g hf, q g h hg, q0 h hh]

def c4 (x : Nat) : Nat := x + x / 256
def c5 (x : Nat) : Nat := x + x / 65536
def c6 (x : Nat) : Nat := x + x / 4294967296
theorem c456 (a b c d e f g h : Nat) (ha : a ≤ 8) (hb : b ≤ 8) (hc : c ≤ 8) (hd : d ≤ 8) (he : e ≤ 8) (hf : f ≤ 8) (hg : g ≤ 8) (hh : h ≤ 8) :
    c4 (by8 a b c d e f g h) < 18446744073709551616 ∧ c5 (c4 (by8 a b c d e f g h)) < 18446744073709551616 ∧ c6 (c5 (c4 (by8 a b c d e f g h))) < 9223372036854775808 ∧ c6 (c5 (c4 (by8 a b c d e f g h))) % 128 = a + b + c + d + e + f + g + h := by
  have h4 : c4 (by8 a b c d e f g h) = by8 (a + b) (b + c) (c + d) (d + e) (e + f) (f + g) (g + h) h := by unfold c4 by8; omega
  rw [h4]
  have h5 (a b c d e f g h : Nat) (ha : a ≤ 16) (hb : b ≤ 16) (hc : c ≤ 16) (hd : d ≤ 16) (he : e ≤ 16) (hf : f ≤ 16) (hg : g ≤ 16) (hh : h ≤ 16) : c5 (by8 a b c d e f g h) = by8 (a + c) (b + d) (c + e) (d + f) (e + g) (f + h) g h := by unfold c5 by8; omega
  rw [h5 _ _ _ _ _ _ _ _ (by omega) (by omega) (by omega) (by omega) (by omega) (by omega) (by omega) (by omega)]
  have h6 (a b c d e f g h : Nat) (ha : a ≤ 32) (hb : b ≤ 32) (hc : c ≤ 32) (hd : d ≤ 32) (he : e ≤ 32) (hf : f ≤ 32) (hg : g ≤ 32) (hh : h ≤ 32) : c6 (by8 a b c d e f g h) = by8 (a + e) (b + f) (c + g) (d + h) e f g h := by unfold c6 by8; omega
  rw [h6 _ _ _ _ _ _ _ _ (by omega) (by omega) (by omega) (by omega) (by omega) (by omega) (by omega) (by omega)]
  unfold by8
  omega

/-- the ones of a number of 64 bits -/
def pop (x : Nat) : Nat := cnt x.testBit 64
theorem pop_le (x : Nat) : pop x ≤ 64 := cnt_le _ _
theorem pop_byte : ∀ b : Fin 256, s3 (s2 (s1 b.val)) = cnt b.val.testBit 8 := by decide +kernel

theorem cnt_byte (x k : Nat) : cnt (fun i => x.testBit (k + i)) 8 = cnt (x / 2 ^ k % 256).testBit 8 := by
  refine cnt_congr fun i hi => ?_
  rw [show (256 : Nat) = 2 ^ 8 from rfl, Nat.testBit_mod_two_pow, Nat.testBit_div_two_pow]
  simp [hi, Nat.add_comm]
theorem bytes8 (a b c d e f g h : Nat) (ha : a < 256) (hb : b < 256) (hc : c < 256) (hd : d < 256) (he : e < 256) (hf : f < 256) (hg : g < 256) (hh : h < 256) :
    by8 a b c d e f g h / 1 % 256 = a ∧ by8 a b c d e f g h / 256 % 256 = b ∧ by8 a b c d e f g h / 65536 % 256 = c ∧ by8 a b c d e f g h / 16777216 % 256 = d ∧ by8 a b c d e f g h / 4294967296 % 256 = e ∧
    by8 a b c d e f g h / 1099511627776 % 256 = f ∧ by8 a b c d e f g h / 281474976710656 % 256 = g ∧ by8 a b c d e f g h / 72057594037927936 % 256 = h := by
  unfold by8
  refine ⟨by omega, by omega, by omega, by omega, by omega, by omega, by omega, by omega⟩
theorem by8_lt (a b c d e f g h : Nat) (ha : a < 256) (hb : b < 256) (hc : c < 256) (hd : d < 256) (he : e < 256) (hf : f < 256) (hg : g < 256) (hh : h < 256) : by8 a b c d e f g h < 18446744073709551616 := by
  unfold by8; omega
theorem nib_lt (a b c d e f g h : Nat) (hg : nib g) (hh : nib h) (ha : a < 256) (hb : b < 256) (hc : c < 256) (hd : d < 256) (he : e < 256) (hf : f < 256) : by8 a b c d e f g h / 16 + by8 a b c d e f g h < 18446744073709551616 := by
  unfold nib at *
  unfold by8; omega
theorem pop_by8 (a b c d e f g h : Nat) (ha : a < 256) (hb : b < 256) (hc : c < 256) (hd : d < 256) (he : e < 256) (hf : f < 256) (hg : g < 256) (hh : h < 256) :
    pop (by8 a b c d e f g h) = cnt a.testBit 8 + cnt b.testBit 8 + cnt c.testBit 8 + cnt d.testBit 8 + cnt e.testBit 8 + cnt f.testBit 8 + cnt g.testBit 8 + cnt h.testBit 8 := by
  unfold pop
  generalize hx : by8 a b c d e f g h = x
  rw [show (64 : Nat) = 0 + 8 + 8 + 8 + 8 + 8 + 8 + 8 + 8 from rfl]
  rw [cnt_add x.testBit (0 + 8 + 8 + 8 + 8 + 8 + 8 + 8), cnt_add x.testBit (0 + 8 + 8 + 8 + 8 + 8 + 8), cnt_add x.testBit (0 + 8 + 8 + 8 + 8 + 8), cnt_add x.testBit (0 + 8 + 8 + 8 + 8), cnt_add x.testBit (0 + 8 + 8 + 8), cnt_add x.testBit (0 + 8 + 8), cnt_add x.testBit (0 + 8), cnt_add x.testBit 0]
  simp only [cnt_byte]
  have e0 : x / 2 ^ 0 % 256 = a := by rw [← hx]; exact (bytes8 a b c d e f g h ha hb hc hd he hf hg hh).1
  have e1 : x / 2 ^ (0 + 8) % 256 = b := by rw [← hx]; exact (bytes8 a b c d e f g h ha hb hc hd he hf hg hh).2.1
  have e2 : x / 2 ^ (0 + 8 + 8) % 256 = c := by rw [← hx]; exact (bytes8 a b c d e f g h ha hb hc hd he hf hg hh).2.2.1
  have e3 : x / 2 ^ (0 + 8 + 8 + 8) % 256 = d := by rw [← hx]; exact (bytes8 a b c d e f g h ha hb hc hd he hf hg hh).2.2.2.1
  have e4 : x / 2 ^ (0 + 8 + 8 + 8 + 8) % 256 = e := by rw [← hx]; exact (bytes8 a b c d e f g h ha hb hc hd he hf hg hh).2.2.2.2.1
  have e5 : x / 2 ^ (0 + 8 + 8 + 8 + 8 + 8) % 256 = f := by rw [← hx]; exact (bytes8 a b c d e f g h ha hb hc hd he hf hg hh).2.2.2.2.2.1
  have e6 : x / 2 ^ (0 + 8 + 8 + 8 + 8 + 8 + 8) % 256 = g := by rw [← hx]; exact (bytes8 a b c d e f g h ha hb hc hd he hf hg hh).2.2.2.2.2.2.1
  have e7 : x / 2 ^ (0 + 8 + 8 + 8 + 8 + 8 + 8 + 8) % 256 = h := by rw [← hx]; exact (bytes8 a b c d e f g h ha hb hc hd he hf hg hh).2.2.2.2.2.2.2
  rw [e0, e1, e2, e3, e4, e5, e6, e7]
  simp [cnt]

/-- THE STEPS OF bits.OnesCount64: nothing falls out, and they count the ones. -/
theorem steps (x : Nat) (hx : x < 18446744073709551616) :
    c1 x < 18446744073709551616 ∧ c2 (c1 x) < 18446744073709551616 ∧ c2 (c1 x) / 16 + c2 (c1 x) < 18446744073709551616 ∧
    c4 (c3 (c2 (c1 x))) < 18446744073709551616 ∧ c5 (c4 (c3 (c2 (c1 x)))) < 18446744073709551616 ∧ c6 (c5 (c4 (c3 (c2 (c1 x))))) < 9223372036854775808 ∧
    c6 (c5 (c4 (c3 (c2 (c1 x))))) % 128 = pop x := by
  obtain ⟨a, b, c, d, e, f, g, h, rfl, ha, hb, hc, hd, he, hf, hg, hh⟩ := by8_of x hx
  have la := s1_lt ⟨a, ha⟩
  have lb := s1_lt ⟨b, hb⟩
  have lc := s1_lt ⟨c, hc⟩
  have ld := s1_lt ⟨d, hd⟩
  have le := s1_lt ⟨e, he⟩
  have lf := s1_lt ⟨f, hf⟩
  have lg := s1_lt ⟨g, hg⟩
  have lh := s1_lt ⟨h, hh⟩
  rw [pop_by8 a b c d e f g h ha hb hc hd he hf hg hh]
  rw [← pop_byte ⟨a, ha⟩, ← pop_byte ⟨b, hb⟩, ← pop_byte ⟨c, hc⟩, ← pop_byte ⟨d, hd⟩, ← pop_byte ⟨e, he⟩, ← pop_byte ⟨f, hf⟩, ← pop_byte ⟨g, hg⟩, ← pop_byte ⟨h, hh⟩]
  simp only at la lb lc ld le lf lg lh ⊢
  rw [c1_by8 a b c d e f g h ha hb hc hd he hf hg, c2_by8 _ _ _ _ _ _ _ _ la.1 lb.1 lc.1 ld.1 le.1 lf.1 lg.1,
    c3_by8 _ _ _ _ _ _ _ _ ⟨la.2.2.1, la.2.2.2.1⟩ ⟨lb.2.2.1, lb.2.2.2.1⟩ ⟨lc.2.2.1, lc.2.2.2.1⟩ ⟨ld.2.2.1, ld.2.2.2.1⟩ ⟨le.2.2.1, le.2.2.2.1⟩ ⟨lf.2.2.1, lf.2.2.2.1⟩ ⟨lg.2.2.1, lg.2.2.2.1⟩ ⟨lh.2.2.1, lh.2.2.2.1⟩]
  have q := c456 _ _ _ _ _ _ _ _ la.2.2.2.2 lb.2.2.2.2 lc.2.2.2.2 ld.2.2.2.2 le.2.2.2.2 lf.2.2.2.2 lg.2.2.2.2 lh.2.2.2.2
  exact ⟨by8_lt _ _ _ _ _ _ _ _ la.1 lb.1 lc.1 ld.1 le.1 lf.1 lg.1 lh.1, by8_lt _ _ _ _ _ _ _ _ la.2.1 lb.2.1 lc.2.1 ld.2.1 le.2.1 lf.2.1 lg.2.1 lh.2.1,
    nib_lt _ _ _ _ _ _ _ _ ⟨lg.2.2.1, lg.2.2.2.1⟩ ⟨lh.2.2.1, lh.2.2.2.1⟩ la.2.1 lb.2.1 lc.2.1 ld.2.1 le.2.1 lf.2.1, q⟩
end Go.Proofs.YtphjbbbnbmafnabGreatDoor

namespace Go.Proofs.YtphjbbbnbmafnabGreatDoor
open Go.RowKit

def k1 (x : Int) : Int := IntKind.u64.wrap (bits .and .u64 (x / 2) 6148914691236517205 + bits .and .u64 x 6148914691236517205)
def k2 (x : Int) : Int := IntKind.u64.wrap (bits .and .u64 (x / 4) 3689348814741910323 + bits .and .u64 x 3689348814741910323)
def k3 (x : Int) : Int := bits .and .u64 (IntKind.u64.wrap (x / 16 + x)) 1085102592571150095
def k4 (x : Int) : Int := IntKind.u64.wrap (x + x / 256)
def k5 (x : Int) : Int := IntKind.u64.wrap (x + x / 65536)
def k6 (x : Int) : Int := IntKind.u64.wrap (x + x / 4294967296)
def onesI (x : Int) : Int := bits .and .i64 (wrap64 (k6 (k5 (k4 (k3 (k2 (k1 x))))))) 127

theorem wrap_nat (n : Nat) (h : n < 18446744073709551616) : IntKind.u64.wrap (n : Int) = (n : Int) := by rw [IntKind.wrap_u64]; omega
theorem k1_nat (x : Nat) (hx : x < 18446744073709551616) (h : c1 x < 18446744073709551616) : k1 (x : Int) = (c1 x : Int) := by
  have a := u64_and_nat (x / 2) 6148914691236517205 (by omega) (by omega)
  have b := u64_and_nat x 6148914691236517205 hx (by omega)
  have c := wrap_nat (c1 x) h
  unfold k1
  simp only [Int.natCast_ediv, Int.cast_ofNat_Int] at a b
  rw [a, b, ← Int.natCast_add]
  exact c
theorem k2_nat (x : Nat) (hx : x < 18446744073709551616) (h : c2 x < 18446744073709551616) : k2 (x : Int) = (c2 x : Int) := by
  have a := u64_and_nat (x / 4) 3689348814741910323 (by omega) (by omega)
  have b := u64_and_nat x 3689348814741910323 hx (by omega)
  have c := wrap_nat (c2 x) h
  unfold k2
  simp only [Int.natCast_ediv, Int.cast_ofNat_Int] at a b
  rw [a, b, ← Int.natCast_add]
  exact c
theorem k3_nat (x : Nat) (h : x / 16 + x < 18446744073709551616) : k3 (x : Int) = (c3 x : Int) := by
  have a := u64_and_nat (x / 16 + x) 1085102592571150095 h (by omega)
  have c := wrap_nat (x / 16 + x) h
  unfold k3 c3
  simp only [Int.natCast_ediv, Int.cast_ofNat_Int, Int.natCast_add] at a c
  rw [c, a]
theorem k4_nat (x : Nat) (h : c4 x < 18446744073709551616) : k4 (x : Int) = (c4 x : Int) := by
  have c := wrap_nat (c4 x) h
  unfold k4
  unfold c4 at c ⊢
  simp only [Int.natCast_ediv, Int.cast_ofNat_Int, Int.natCast_add] at c ⊢
  exact c
theorem k5_nat (x : Nat) (h : c5 x < 18446744073709551616) : k5 (x : Int) = (c5 x : Int) := by
  have c := wrap_nat (c5 x) h
  unfold k5
  unfold c5 at c ⊢
  simp only [Int.natCast_ediv, Int.cast_ofNat_Int, Int.natCast_add] at c ⊢
  exact c
theorem k6_nat (x : Nat) (h : c6 x < 18446744073709551616) : k6 (x : Int) = (c6 x : Int) := by
  have c := wrap_nat (c6 x) h
  unfold k6
  unfold c6 at c ⊢
  simp only [Int.natCast_ediv, Int.cast_ofNat_Int, Int.natCast_add] at c ⊢
  exact c
theorem and127 (x : Nat) (h : x < 9223372036854775808) : bits .and .i64 (wrap64 (x : Int)) 127 = ((x % 128 : Nat) : Int) := by
  have e : wrap64 (x : Int) = (x : Int) := by unfold wrap64; omega
  rw [e]
  have h1 : (BitVec.ofInt 64 (x : Int)).toNat = x := by rw [BitVec.ofInt_natCast, BitVec.toNat_ofNat]; exact Nat.mod_eq_of_lt (by omega)
  show IntKind.i64.wrap ((BitVec.ofInt 64 (x : Int) &&& BitVec.ofInt 64 127).toNat : Int) = _
  rw [BitVec.toNat_and, h1, show (BitVec.ofInt 64 127).toNat = 127 from by decide, nat_mask7, IntKind.wrap_i64]
  omega
theorem onesI_nat (x : Nat) (hx : x < 18446744073709551616) : onesI (x : Int) = (pop x : Int) := by
  obtain ⟨h1, h2, h3, h4, h5, h6, h7⟩ := steps x hx
  unfold onesI
  rw [k1_nat x hx h1, k2_nat _ h1 h2, k3_nat _ h3, k4_nat _ h4, k5_nat _ h5, k6_nat _ (by omega), and127 _ h6, h7]

theorem ret_int {k : IntKind} {a b : Int} (h : a = b) : Ending.returned (.int k a) = .returned (.int k b) := by rw [h]

set_option maxHeartbeats 400000 in
theorem ones_any (x : Nat) (hx : x < 18446744073709551616) (w : World) :
    Calls Tryz.prog 105 #[.int .u64 (x : Int)] w fun e w' => e = .returned (.int .i64 (pop x : Int)) ∧ w' = w := by
  have H : Hid (onesI (x : Int) = (pop x : Int)) := onesI_nat x hx
  go_enter Tryz.func105, Tryz.ntmps105
  go_wp2
  go_ret
  exact ⟨ret_int H.out, rfl⟩
end Go.Proofs.YtphjbbbnbmafnabGreatDoor

namespace Go.Proofs.YtphjbbbnbmafnabGreatDoor
open Go.RowKit

theorem pop_mask (x h : Nat) (h64 : h ≤ 64) : pop (x &&& (2 ^ h - 1)) = cnt x.testBit h := by
  unfold pop
  rw [show (64 : Nat) = h + (64 - h) from by omega, cnt_add]
  have e1 : cnt (x &&& (2 ^ h - 1)).testBit h = cnt x.testBit h := cnt_congr fun i hi => by
    rw [Nat.testBit_and, Nat.testBit_two_pow_sub_one]; simp [hi]
  have e2 : cnt (fun i => (x &&& (2 ^ h - 1)).testBit (h + i)) (64 - h) = 0 := cnt_false fun i _ => by
    rw [Nat.testBit_and, Nat.testBit_two_pow_sub_one]; simp
  rw [e1, e2]; rfl
theorem ones_mask (x h : Nat) (M : Int) (hM : M = ((2 ^ h - 1 : Nat) : Int)) (h64 : h ≤ 64) (hx : x < 18446744073709551616) (w : World) :
    Calls Tryz.prog 105 #[.int .u64 (bits .and .u64 (x : Int) M)] w fun e w' => e = .returned (.int .i64 (cnt x.testBit h : Int)) ∧ w' = w := by
  subst hM
  have hp : 2 ^ h ≤ 2 ^ 64 := Nat.pow_le_pow_right (by decide) h64
  rw [u64_and_nat x (2 ^ h - 1) hx (by omega), ← pop_mask x h h64]
  exact ones_any _ (Nat.lt_of_le_of_lt Nat.and_le_left hx) w

def wd (h : Nat) : Nat := if h = 0 then 1 else 2 * h
def SelInv (X K x k p h : Nat) : Prop := x = X / 2 ^ p ∧ cnt X.testBit p + k = K ∧ k < cnt x.testBit (wd h) ∧ p + wd h ≤ 64
theorem sel_no {X K x k p h h' : Nat} (hi : SelInv X K x k p h) (hw : wd h' = h) (hh : h ≠ 0) (hlt : k < cnt x.testBit h) : SelInv X K x k p h' := by
  obtain ⟨a, b, c, d⟩ := hi
  refine ⟨a, b, by rw [hw]; exact hlt, ?_⟩
  rw [hw]; unfold wd at d; rw [if_neg hh] at d; omega
theorem cnt_shift (x p h : Nat) : cnt (fun i => x.testBit (p + i)) h = cnt (x / 2 ^ p).testBit h := cnt_congr fun i _ => by rw [Nat.testBit_div_two_pow, Nat.add_comm]
theorem sel_yes {X K x k p h h' : Nat} (hi : SelInv X K x k p h) (hw : wd h' = h) (hh : h ≠ 0) (hle : cnt x.testBit h ≤ k) : SelInv X K (x / 2 ^ h) (k - cnt x.testBit h) (p + h) h' := by
  obtain ⟨a, b, c, d⟩ := hi
  unfold wd at c d; rw [if_neg hh] at c d
  refine ⟨?_, ?_, ?_, ?_⟩
  · rw [a, Nat.div_div_eq_div_mul, Nat.pow_add]
  · rw [cnt_add, cnt_shift, ← a]; omega
  · rw [hw]; rw [show 2 * h = h + h from by omega, cnt_add, cnt_shift] at c; omega
  · rw [hw]; omega
theorem sel_end {X K x k p : Nat} (hi : SelInv X K x k p 0) : p < 64 ∧ X.testBit p = true ∧ cnt X.testBit p = K := by
  obtain ⟨a, b, c, d⟩ := hi
  simp only [wd, if_true] at c d
  have e : cnt x.testBit 1 = (x.testBit 0).toNat := by simp [cnt]
  rw [e] at c
  have t : x.testBit 0 = true := by
    cases h : x.testBit 0 with
    | true => rfl
    | false => rw [h] at c; simp at c
  rw [t] at c
  simp at c
  refine ⟨by omega, ?_, by omega⟩
  rw [a, Nat.testBit_div_two_pow] at t
  simpa using t
theorem sel_start {X K : Nat} (hK : K < pop X) : SelInv X K X K 0 32 := ⟨by simp, by simp [cnt], hK, by simp [wd]⟩
theorem sel_lt {X K x k p h : Nat} (hi : SelInv X K x k p h) (_ : wd h ≤ 64) : k < 64 ∧ p < 64 := by
  obtain ⟨a, b, c, d⟩ := hi
  have := cnt_le x.testBit (wd h)
  have : 1 ≤ wd h := by unfold wd; split <;> omega
  omega

def SelRel (X K : Nat) (x k p h : Value) : Prop := ∃ x' k' p' h' : Nat, x = .int .u64 x' ∧ k = .int .i64 k' ∧ p = .int .i64 p' ∧ h = .int .i64 h' ∧ (h' = 32 ∨ h' = 16 ∨ h' = 8 ∨ h' = 4 ∨ h' = 2 ∨ h' = 1 ∨ h' = 0) ∧ Hid (SelInv X K x' k' p' h') ∧ x' < 18446744073709551616 ∧ k' < 64 ∧ p' < 64
theorem rel_no {X K x k p h h' : Nat} (hi : SelInv X K x k p h) (hw : wd h' = h) (hh : h ≠ 0) (hx : x < 18446744073709551616) (hlt : k < cnt x.testBit h) (hin : h' = 32 ∨ h' = 16 ∨ h' = 8 ∨ h' = 4 ∨ h' = 2 ∨ h' = 1 ∨ h' = 0) :
    SelRel X K (.int .u64 x) (.int .i64 k) (.int .i64 p) (.int .i64 h') := by
  have q := sel_no hi hw hh hlt
  have l := sel_lt q (by unfold wd; split <;> omega)
  exact ⟨x, k, p, h', rfl, rfl, rfl, rfl, hin, q, hx, l.1, l.2⟩
theorem rel_yes {X K x k p h h' : Nat} {y z t : Int} (hi : SelInv X K x k p h) (hw : wd h' = h) (hh : h ≠ 0) (hx : x < 18446744073709551616) (hle : cnt x.testBit h ≤ k) (hin : h' = 32 ∨ h' = 16 ∨ h' = 8 ∨ h' = 4 ∨ h' = 2 ∨ h' = 1 ∨ h' = 0)
    (hy : y = ((x / 2 ^ h : Nat) : Int)) (hz : z = (k : Int) - (cnt x.testBit h : Nat)) (ht : t = (p : Int) + (h : Nat)) : SelRel X K (.int .u64 y) (.int .i64 z) (.int .i64 t) (.int .i64 h') := by
  have q := sel_yes hi hw hh hle
  have l := sel_lt q (by unfold wd; split <;> omega)
  have d := Nat.div_le_self x (2 ^ h)
  refine ⟨x / 2 ^ h, k - cnt x.testBit h, p + h, h', by rw [hy], ?_, ?_, rfl, hin, q, by omega, l.1, l.2⟩
  · rw [hz]; congr 1; omega
  · rw [ht]; congr 1

set_option maxHeartbeats 2000000 in
theorem sel_any (X K : Nat) (hX : X < 18446744073709551616) (hK : K < pop X) (w : World) :
    Calls Tryz.prog 158 #[.int .u64 (X : Int), .int .i64 (K : Int)] w fun e w' => ∃ p : Nat, e = .returned (.int .i64 (p : Int)) ∧ w' = w ∧ p < 64 ∧ X.testBit p = true ∧ cnt X.testBit p = K := by
  go_enter Tryz.func158, Tryz.ntmps158
  go_wp2
  go_loop [0, 1, 5, 6] (fun x k p h => SelRel X K x k p h) (fun _ _ _ h => (intOf h).toNat)
  case atStart => exact ⟨X, K, 0, 32, rfl, rfl, rfl, rfl, .inl rfl, sel_start hK, hX, by have := pop_le X; omega, by omega⟩
  case round =>
    obtain ⟨x', k', p', h', rfl, rfl, rfl, rfl, hh, hinv, hx, hk, hp⟩ := hrel
    rcases hh with rfl | rfl | rfl | rfl | rfl | rfl | rfl
    · have hcl := cnt_le x'.testBit 32
      by_cases hc : cnt x'.testBit 32 ≤ k'
      · go_wp2_with (go_at_call 105; refine (ones_mask _ 32 _ (by decide) (by decide) hx _).mono ?_; rintro e w' ⟨rfl, rfl⟩)
        go_round
        case rel => exact rel_yes (h' := 16) hinv.out rfl (by decide) hx hc (by decide) (by simp) rfl rfl
        case measure => simp [intOf]
      · go_wp2_with (go_at_call 105; refine (ones_mask _ 32 _ (by decide) (by decide) hx _).mono ?_; rintro e w' ⟨rfl, rfl⟩)
        go_round
        case rel => exact rel_no (h' := 16) hinv.out rfl (by decide) hx (by omega) (by decide)
        case measure => simp [intOf]
    · have hcl := cnt_le x'.testBit 16
      by_cases hc : cnt x'.testBit 16 ≤ k'
      · go_wp2_with (go_at_call 105; refine (ones_mask _ 16 _ (by decide) (by decide) hx _).mono ?_; rintro e w' ⟨rfl, rfl⟩)
        go_round
        case rel => exact rel_yes (h' := 8) hinv.out rfl (by decide) hx hc (by decide) (by simp) rfl rfl
        case measure => simp [intOf]
      · go_wp2_with (go_at_call 105; refine (ones_mask _ 16 _ (by decide) (by decide) hx _).mono ?_; rintro e w' ⟨rfl, rfl⟩)
        go_round
        case rel => exact rel_no (h' := 8) hinv.out rfl (by decide) hx (by omega) (by decide)
        case measure => simp [intOf]
    · have hcl := cnt_le x'.testBit 8
      by_cases hc : cnt x'.testBit 8 ≤ k'
      · go_wp2_with (go_at_call 105; refine (ones_mask _ 8 _ (by decide) (by decide) hx _).mono ?_; rintro e w' ⟨rfl, rfl⟩)
        go_round
        case rel => exact rel_yes (h' := 4) hinv.out rfl (by decide) hx hc (by decide) (by simp) rfl rfl
        case measure => simp [intOf]
      · go_wp2_with (go_at_call 105; refine (ones_mask _ 8 _ (by decide) (by decide) hx _).mono ?_; rintro e w' ⟨rfl, rfl⟩)
        go_round
        case rel => exact rel_no (h' := 4) hinv.out rfl (by decide) hx (by omega) (by decide)
        case measure => simp [intOf]
    · have hcl := cnt_le x'.testBit 4
      by_cases hc : cnt x'.testBit 4 ≤ k'
      · go_wp2_with (go_at_call 105; refine (ones_mask _ 4 _ (by decide) (by decide) hx _).mono ?_; rintro e w' ⟨rfl, rfl⟩)
        go_round
        case rel => exact rel_yes (h' := 2) hinv.out rfl (by decide) hx hc (by decide) (by simp) rfl rfl
        case measure => simp [intOf]
      · go_wp2_with (go_at_call 105; refine (ones_mask _ 4 _ (by decide) (by decide) hx _).mono ?_; rintro e w' ⟨rfl, rfl⟩)
        go_round
        case rel => exact rel_no (h' := 2) hinv.out rfl (by decide) hx (by omega) (by decide)
        case measure => simp [intOf]
    · have hcl := cnt_le x'.testBit 2
      by_cases hc : cnt x'.testBit 2 ≤ k'
      · go_wp2_with (go_at_call 105; refine (ones_mask _ 2 _ (by decide) (by decide) hx _).mono ?_; rintro e w' ⟨rfl, rfl⟩)
        go_round
        case rel => exact rel_yes (h' := 1) hinv.out rfl (by decide) hx hc (by decide) (by simp) rfl rfl
        case measure => simp [intOf]
      · go_wp2_with (go_at_call 105; refine (ones_mask _ 2 _ (by decide) (by decide) hx _).mono ?_; rintro e w' ⟨rfl, rfl⟩)
        go_round
        case rel => exact rel_no (h' := 1) hinv.out rfl (by decide) hx (by omega) (by decide)
        case measure => simp [intOf]
    · have hcl := cnt_le x'.testBit 1
      by_cases hc : cnt x'.testBit 1 ≤ k'
      · go_wp2_with (go_at_call 105; refine (ones_mask _ 1 _ (by decide) (by decide) hx _).mono ?_; rintro e w' ⟨rfl, rfl⟩)
        go_round
        case rel => exact rel_yes (h' := 0) hinv.out rfl (by decide) hx hc (by decide) (by simp) rfl rfl
        case measure => simp [intOf]
      · go_wp2_with (go_at_call 105; refine (ones_mask _ 1 _ (by decide) (by decide) hx _).mono ?_; rintro e w' ⟨rfl, rfl⟩)
        go_round
        case rel => exact rel_no (h' := 0) hinv.out rfl (by decide) hx (by omega) (by decide)
        case measure => simp [intOf]
    · go_wp2
      go_ret
      exact ⟨p', rfl, rfl, sel_end hinv.out⟩
end Go.Proofs.YtphjbbbnbmafnabGreatDoor

namespace Go.Proofs.YtphjbbbnbmafnabGreatDoor
open Go.RowKit

/-- A vector of n bits f, as NewBits lays it: its struct in block b, its words in block bw, the counts ahead of each word in block ba. -/
structure BitsAt (w : World) (b bw ba : Nat) (f : Nat → Bool) (n : Nat) (W : Nat → Nat) : Prop where
  hn : n ≤ 100000
  len : w.cell? ⟨b, 0, none⟩ = some (.int .i64 (n : Int))
  ones : w.cell? ⟨b, 1, none⟩ = some (.int .i64 (cnt f n : Int))
  words : w.cell? ⟨b, 2, none⟩ = some (.slice (some ⟨bw, 0, none⟩) (n / 64 + 1) (n / 64 + 1))
  ahead : w.cell? ⟨b, 3, none⟩ = some (.slice (some ⟨ba, 0, none⟩) (n / 64 + 1) (n / 64 + 1))
  word : ∀ j, j < n / 64 + 1 → w.cell? ⟨bw, j, none⟩ = some (.int .u64 (W j : Int))
  ahd : ∀ j, j < n / 64 + 1 → w.cell? ⟨ba, j, none⟩ = some (.int .u32 (cnt f (64 * j) : Int))
  wlt : ∀ j, W j < 18446744073709551616
  wbit : ∀ j i, i < 64 → (W j).testBit i = f (64 * j + i)
  out : ∀ i, n ≤ i → f i = false

theorem two_pow_int (k : Nat) : ((2 ^ k : Nat) : Int) = (2 : Int) ^ k := by simp
theorem mask_int (k : Nat) (hk : k < 64) : IntKind.u64.wrap (IntKind.u64.wrap ((2 : Int) ^ k) - 1) = ((2 ^ k - 1 : Nat) : Int) := by
  have h1 : 2 ^ k ≤ 2 ^ 63 := Nat.pow_le_pow_right (by decide) (by omega)
  have h2 : 1 ≤ 2 ^ k := Nat.one_le_two_pow
  rw [← two_pow_int, IntKind.wrap_u64, IntKind.wrap_u64]
  generalize 2 ^ k = m at *
  omega
theorem rank_value {b bw ba n : Nat} {f : Nat → Bool} {W : Nat → Nat} {w : World} (hb : BitsAt w b bw ba f n W) (i : Nat) : cnt f (64 * (i / 64)) + cnt (W (i / 64)).testBit (i % 64) = cnt f i := by
  have e : cnt f i = cnt f (64 * (i / 64) + i % 64) := by congr 1; omega
  rw [e, cnt_add]
  congr 1
  exact cnt_congr fun t ht => hb.wbit _ _ (by omega)

theorem ret2_int {a b : Int} {c : Value} (h : a = b) : Ending.returned (.tuple #[.int .i64 a, c]) = .returned (.tuple #[.int .i64 b, c]) := by rw [h]
theorem ret1_int {a b : Int} {k : IntKind} (h : a = b) : Ending.returned (.int k a) = .returned (.int k b) := by rw [h]
set_option maxHeartbeats 400000 in
/-- onesAhead: the ones ahead of a place. -/
theorem oa_any {w : World} {b bw ba n : Nat} {f : Nat → Bool} {W : Nat → Nat} (hb : BitsAt w b bw ba f n W) (i : Nat) (h : i ≤ n) (I : Int) (hI : I = (i : Int)) :
    Calls Tryz.prog 149 #[.pointer (some ⟨b, 0, none⟩), .int .i64 I] w fun e w' => e = .returned (.int .i64 (cnt f i : Int)) ∧ ∃ q, w' = w.drewN q := by
  subst hI
  have h2 := hb.words
  have h3 := hb.ahead
  have hn := hb.hn
  have hw := hb.word (i / 64) (by omega)
  have ha := hb.ahd (i / 64) (by omega)
  have hl := hb.wlt (i / 64)
  have hm := mask_int (i % 64) (by omega)
  have HM : Hid _ := hm
  clear hm
  have hv := rank_value hb i
  have hc1 := cnt_le f (64 * (i / 64))
  have hc2 := cnt_le (W (i / 64)).testBit (i % 64)
  have hi1 : (i : Int) / 64 < ((n / 64 + 1 : Nat) : Int) := by omega
  have HV : Hid _ := hv
  clear hv
  go_enter Tryz.func149, Tryz.ntmps149
  go_wp2
  go_quiet ((go_at_call 105; exact Calls.quiet_of_same (ones_mask _ (i % 64) _ HM.out (by omega) hl _)))
  go_wp2
  go_ret
  exact ⟨ret1_int (by rw [← HV.out]; omega), _, rfl⟩
end Go.Proofs.YtphjbbbnbmafnabGreatDoor
