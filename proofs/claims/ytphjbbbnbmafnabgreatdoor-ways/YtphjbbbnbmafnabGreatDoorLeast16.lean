/-
  What a sequence asks of a level's vector of bits that lies in memory as said: isOne, zeros, down, up, narrow answer what they say (places of that vector), and the spans' two small functions isSpan and long; nothing that was there is written.
  How many numbers of a stretch of a list are below one, and how many are it; that the k-th least of them is one alone. No condition.
  The questions to a sequence of numbers of 16 bits that lies in memory as NewSeq makes it: Len, At, Rank, Select, Below, Least answer what the document says of its list, or ErrRange; nothing that was there is written. The sequence's reading is the one condition.
  Select of a sequence of numbers of 16 bits that lies in memory as NewSeq makes it: where a number is for the k-th time, or ErrRange; nothing that was there is written. The sequence's reading is the one condition.
  Below and Least of a sequence of numbers of 16 bits that lies in memory as NewSeq makes it: how many numbers of a span are below one; the k-th least number of a span; or ErrRange; nothing that was there is written. The sequence's reading is the one condition.
  Least of a sequence of numbers of 16 bits that lies in memory as NewSeq makes it, where there is a k-th number in the span: the number of which at most k are below it, and more than k are below it or the same; nothing that was there is written. The sequence's reading is the one condition.
-/
import Derived.Test.YtphjbbbnbmafnabGreatDoorSeqMath
import Derived.Deep.RegionHeld
namespace Go.Proofs.YtphjbbbnbmafnabGreatDoor
open Go.RowKit

theorem one_bit (x i : Nat) (hx : x < 18446744073709551616) : (bits .and .u64 ((x : Int) / 2 ^ i) 1 == 1) = x.testBit i := by
  have e : ((x : Int) / 2 ^ i) = ((x / 2 ^ i : Nat) : Int) := by rw [Int.natCast_ediv]; simp
  have hl : x / 2 ^ i < 18446744073709551616 := Nat.lt_of_le_of_lt (Nat.div_le_self _ _) hx
  have q : bits .and .u64 ((x / 2 ^ i : Nat) : Int) 1 = ((x / 2 ^ i &&& 1 : Nat) : Int) := u64_and_nat _ 1 hl (by decide)
  rw [e, q, Nat.testBit_eq_decide_div_mod_eq, Nat.and_one_is_mod]
  generalize x / 2 ^ i % 2 = m
  by_cases h : m = 1
  · subst h; rfl
  · have : ¬ ((m : Int) = 1) := by omega
    simp [h, this]
theorem ret_bool {a b : Bool} (h : a = b) : Ending.returned (.bool a) = .returned (.bool b) := by rw [h]
set_option maxHeartbeats 400000 in
theorem isOne_any {w : World} {b bw ba n : Nat} {f : Nat → Bool} {W : Nat → Nat} (hb : BitsAt w b bw ba f n W) (i : Nat) (h : i ≤ n) :
    Calls Tryz.prog 132 #[.pointer (some ⟨b, 0, none⟩), .int .i64 (i : Int)] w fun e w' => e = .returned (.bool (f i)) ∧ w' = w := by
  have h2 := hb.words
  have hn := hb.hn
  have hw := hb.word (i / 64) (by omega)
  have hl := hb.wlt (i / 64)
  have hi1 : (i : Int) / 64 < ((n / 64 + 1 : Nat) : Int) := by omega
  have e := hb.wbit (i / 64) (i % 64) (by omega)
  rw [show 64 * (i / 64) + i % 64 = i by omega] at e
  have HE : Hid _ := e
  clear e
  go_enter Tryz.func132, Tryz.ntmps132
  go_wp2
  go_ret
  exact ⟨ret_bool (by rw [← HE.out]; exact one_bit _ _ hl), rfl⟩
set_option maxHeartbeats 400000 in
theorem zeros_any {w : World} {b bw ba n : Nat} {f : Nat → Bool} {W : Nat → Nat} (hb : BitsAt w b bw ba f n W) :
    Calls Tryz.prog 148 #[.pointer (some ⟨b, 0, none⟩)] w fun e w' => e = .returned (.int .i64 ((n : Int) - (cnt f n : Int))) ∧ ∃ q, w' = w.drewN q := by
  have h0 := hb.len
  have h1 := hb.ones
  have hn := hb.hn
  have hc := cnt_le f n
  go_enter Tryz.func148, Tryz.ntmps148
  go_wp2
  go_quiet (fail)
  go_wp2
  go_ret
  exact ⟨rfl, _, rfl⟩
set_option maxHeartbeats 400000 in
theorem down_any {w : World} {b bw ba n : Nat} {f : Nat → Bool} {W : Nat → Nat} (hb : BitsAt w b bw ba f n W) (one : Bool) (i : Nat) (h : i ≤ n) (I : Int) (hI : I = (i : Int)) :
    Calls Tryz.prog 133 #[.pointer (some ⟨b, 0, none⟩), .int .i64 I, .bool one] w fun e w' => e = .returned (.int .i64 (down f n one i : Int)) ∧ ∃ q, w' = w.drewN q := by
  subst hI
  have hn := hb.hn
  have hc := cnt_le f n
  have hci := cnt_le f i
  cases one
  · have HD : Hid (((i : Int) - (cnt f i : Int)) = (down f n false i : Int)) := (by unfold down; simp; omega : _ = _)
    go_enter Tryz.func133, Tryz.ntmps133
    go_wp2_with fail
    refine (oa_any hb i h _ rfl).mono ?_
    rintro e w' ⟨rfl, q, rfl⟩
    go_wp2
    go_ret
    exact ⟨ret1_int HD.out, _, rfl⟩
  · have HD : Hid (((n : Int) - (cnt f n : Int) + (cnt f i : Int)) = (down f n true i : Int)) := (by unfold down; simp; omega : _ = _)
    go_enter Tryz.func133, Tryz.ntmps133
    go_wp2_with fail
    refine (zeros_any hb).mono ?_
    rintro e w' ⟨rfl, q, rfl⟩
    go_wp2_with fail
    refine (oa_any (hb.drewN _) i h _ rfl).mono ?_
    rintro e w' ⟨rfl, q, rfl⟩
    go_wp2
    go_ret
    exact ⟨ret1_int HD.out, _, rfl⟩
set_option maxHeartbeats 400000 in
theorem long_any (x y : Int) (hx : 0 ≤ x ∧ x ≤ 1000000) (hy : 0 ≤ y ∧ y ≤ 1000000) (w : World) :
    Calls Tryz.prog 117 #[.agg #[.int .i64 x, .int .i64 y]] w fun e w' => e = .returned (.int .i64 (y - x)) ∧ Below w.heap.size w w' := by
  go_enter Tryz.func117, Tryz.ntmps117
  go_wp2
  go_ret
  exact ⟨rfl, (Below.refl _ _).alloc (Nat.le_refl _) _⟩
set_option maxHeartbeats 400000 in
theorem isSpan_any (x y n : Int) (w : World) :
    Calls Tryz.prog 93 #[.agg #[.int .i64 x, .int .i64 y], .int .i64 n] w fun e w' => e = .returned (.bool (decide (0 ≤ x ∧ x ≤ y ∧ y ≤ n))) ∧ Below w.heap.size w w' := by
  by_cases h1 : 0 ≤ x
  · by_cases h2 : x ≤ y
    · by_cases h3 : y ≤ n
      · have HD : Hid _ := decide_eq_true (show 0 ≤ x ∧ x ≤ y ∧ y ≤ n from ⟨h1, h2, h3⟩)
        rw [HD.out]
        go_enter Tryz.func93, Tryz.ntmps93
        go_wp2
        go_ret
        exact ⟨rfl, (Below.refl _ _).alloc (Nat.le_refl _) _⟩
      · have HD : Hid _ := decide_eq_false (show ¬ (0 ≤ x ∧ x ≤ y ∧ y ≤ n) from fun h => h3 h.2.2)
        rw [HD.out]
        go_enter Tryz.func93, Tryz.ntmps93
        go_wp2
        go_ret
        exact ⟨rfl, (Below.refl _ _).alloc (Nat.le_refl _) _⟩
    · have HD : Hid _ := decide_eq_false (show ¬ (0 ≤ x ∧ x ≤ y ∧ y ≤ n) from fun h => h2 h.2.1)
      rw [HD.out]
      go_enter Tryz.func93, Tryz.ntmps93
      go_wp2
      go_ret
      exact ⟨rfl, (Below.refl _ _).alloc (Nat.le_refl _) _⟩
  · have HD : Hid _ := decide_eq_false (show ¬ (0 ≤ x ∧ x ≤ y ∧ y ≤ n) from fun h => h1 h.1)
    rw [HD.out]
    go_enter Tryz.func93, Tryz.ntmps93
    go_wp2
    go_ret
    exact ⟨rfl, (Below.refl _ _).alloc (Nat.le_refl _) _⟩
theorem two_below (w : World) (x y : Obj) : Below w.heap.size w ((w.alloc x).alloc y) := ((Below.refl _ _).alloc (Nat.le_refl _) _).alloc (by simp) _
set_option maxHeartbeats 1000000 in
/-- narrow: where a span's ones (zeros) lie in the next level -/
theorem narrow_any {w : World} {b bw ba n : Nat} {f : Nat → Bool} {W : Nat → Nat} (hb : BitsAt w b bw ba f n W) (one : Bool) (i j : Nat) (hi : i ≤ n) (hj : j ≤ n) (I J : Int) (hI : I = (i : Int)) (hJ : J = (j : Int)) :
    Calls Tryz.prog 141 #[.pointer (some ⟨b, 0, none⟩), .agg #[.int .i64 I, .int .i64 J], .bool one] w fun e w' => e = .returned (.agg #[.int .i64 (down f n one i : Int), .int .i64 (down f n one j : Int)]) ∧ Below w.heap.size w w' := by
  subst hI hJ
  have hB := two_below w (.cells #[.int .i64 (i : Int), .int .i64 (j : Int)] 133) (.cells #[.int .i64 0, .int .i64 0] 133)
  have hb1 := hb.below hB
  have HD : Hid (∀ w2, BitsAt w2 b bw ba f n W → ∀ t, t ≤ n → ∀ T : Int, T = (t : Int) → Calls Tryz.prog 133 _ w2 _) := fun w2 h2 t ht T hT => down_any h2 one t ht T hT
  have HB : Hid _ := hb1
  have HL : Hid _ := hB
  clear hb1 hB hb
  go_enter Tryz.func141, Tryz.ntmps141
  go_wp2
  go_region_held (fun w' => w'.cell? ⟨w.heap.size, 0, none⟩ = some (.int .i64 (i : Int)) ∧ w'.cell? ⟨w.heap.size, 1, none⟩ = some (.int .i64 (j : Int))) (go_keep)
    (first
      | (go_at_call_of 133 (Value.int IntKind.i64 (i : Int)); refine (HD.out _ ?_ i hi _ rfl).mono ?_; exact (HB.out.kept (fun _ _ h => h)); rintro e w' ⟨rfl, q1, rfl⟩)
      | (go_at_call_of 133 (Value.int IntKind.i64 (j : Int)); refine (HD.out _ ?_ j hj _ rfl).mono ?_; exact (HB.out.kept (fun _ _ h => h)); rintro e w' ⟨rfl, q2, rfl⟩))
  go_wp2
  refine bodyPost_ret (v := .agg #[.int .i64 (down f n one i : Int), .int .i64 (down f n one j : Int)]) (by simp [results, Tryz.results141, go_sem]) rfl ?_
  exact ⟨rfl, ((below_drewN HL.out _).setCell (p := ⟨w.heap.size + 1, 0, none⟩) (by simp) _).setCell (p := ⟨w.heap.size + 1, 1, none⟩) (by simp) _⟩
/-! ### A sequence in memory -/
/-- A sequence of numbers of B bits as NewSeq lays it: its struct in block b, its levels' pointers in block g. -/
structure SeqAt (B : Nat) (w : World) (b g : Nat) (l : List Nat) : Prop where
  hn : l.length ≤ 100000
  lt : ∀ x ∈ l, x < 2 ^ B
  len : w.cell? ⟨b, 0, none⟩ = some (.int .i64 (l.length : Int))
  levels : w.cell? ⟨b, 1, none⟩ = some (.slice (some ⟨g, 0, none⟩) B B)
  level : ∀ d, d < B → ∃ bb bw ba W, w.cell? ⟨g, d, none⟩ = some (.pointer (some ⟨bb, 0, none⟩)) ∧ BitsAt w bb bw ba (bitf (lev B l d) (B - 1 - d)) l.length W
theorem SeqAt.kept {B : Nat} {w w' : World} {b g : Nat} {l : List Nat} (hs : SeqAt B w b g l) (h : ∀ p v, w.cell? p = some v → w'.cell? p = some v) : SeqAt B w' b g l :=
  ⟨hs.hn, hs.lt, h _ _ hs.len, h _ _ hs.levels, fun d hd => by
    obtain ⟨bb, bw, ba, W, h1, h2⟩ := hs.level d hd
    exact ⟨bb, bw, ba, W, h _ _ h1, h2.kept h⟩⟩
theorem SeqAt.below {B : Nat} {w w' : World} {b g : Nat} {l : List Nat} (hs : SeqAt B w b g l) (hB : Below w.heap.size w w') : SeqAt B w' b g l := hs.kept (cell_kept hB)
theorem SeqAt.drewN {B : Nat} {w : World} {b g : Nat} {l : List Nat} (hs : SeqAt B w b g l) (q : Nat) : SeqAt B (w.drewN q) b g l := hs.kept (fun _ _ h => h)
/-- the number that has but the bit of level d -/
def bitv (B d : Nat) : Int := ((2 ^ (B - 1 - d) : Nat) : Int)
theorem bit_ne (x h : Nat) : (((x &&& 2 ^ h : Nat) : Int) != 0) = x.testBit h := by
  have e : x &&& 2 ^ h = (x.testBit h).toNat * 2 ^ h := by
    rw [nat_bit, Nat.testBit_eq_decide_div_mod_eq]
    have : x / 2 ^ h % 2 < 2 := Nat.mod_lt _ (by decide)
    rcases (show x / 2 ^ h % 2 = 0 ∨ x / 2 ^ h % 2 = 1 by omega) with e | e <;> rw [e] <;> simp
  rw [e]
  have hp : 0 < 2 ^ h := Nat.two_pow_pos h
  cases x.testBit h
  · simp
  · simp only [Bool.toNat_true, Nat.one_mul, bne_iff_ne, ne_eq]; omega
/-- the highest d bits P, and zeros behind them -/
def acc (B d P : Nat) : Int := ((P * 2 ^ (B - d) : Nat) : Int)
theorem acc_zero {B d P : Nat} (hd : d < B) : acc B d P = acc B (d + 1) (2 * P) := by
  unfold acc
  rw [show B - d = (B - (d + 1)) + 1 by omega, Nat.pow_succ]
  congr 1
  rw [Nat.mul_comm (2 ^ _) 2, ← Nat.mul_assoc, Nat.mul_comm P 2]
theorem acc_one {B d P : Nat} (hd : d < B) : (P * 2 ^ (B - d)) ||| 2 ^ (B - 1 - d) = (2 * P + 1) * 2 ^ (B - (d + 1)) := by
  rw [nat_join (B - d) _ _ (Nat.mul_mod_left _ _) (Nat.pow_lt_pow_right (by decide) (by omega))]
  rw [show B - d = (B - (d + 1)) + 1 by omega, Nat.pow_succ, show B - 1 - d = B - (d + 1) by omega, Nat.add_mul, Nat.one_mul]
  congr 1
  rw [Nat.mul_comm (2 ^ _) 2, ← Nat.mul_assoc, Nat.mul_comm P 2]
theorem acc_lt {B d P : Nat} (hd : d ≤ B) (hP : P < 2 ^ d) : P * 2 ^ (B - d) < 2 ^ B := by
  have e : 2 ^ B = 2 ^ d * 2 ^ (B - d) := by rw [← Nat.pow_add]; congr 1; omega
  rw [e]
  exact Nat.mul_lt_mul_of_pos_right hP (Nat.two_pow_pos _)
theorem pre_lt {B d x : Nat} (hd : d ≤ B) (hx : x < 2 ^ B) : x / 2 ^ (B - d) < 2 ^ d := by
  rw [Nat.div_lt_iff_lt_mul (Nat.two_pow_pos _), ← Nat.pow_add]
  rwa [show d + (B - d) = B by omega]
/-- two cells of a block of one's own -/
structure Box2 (w : World) (X : Nat) (u v : Value) : Prop where
  c0 : w.cell? ⟨X, 0, none⟩ = some u
  c1 : w.cell? ⟨X, 1, none⟩ = some v
  f0 : w.frozen? ⟨X, 0, none⟩ = false
  f1 : w.frozen? ⟨X, 1, none⟩ = false
theorem Box2.below {w w' : World} {X : Nat} {u v : Value} (h : Box2 w X u v) (hB : Below w.heap.size w w') : Box2 w' X u v := by
  have hl := World.block_lt_of_cell? _ _ h.c0
  exact ⟨cell_kept hB _ _ h.c0, cell_kept hB _ _ h.c1, (hB.frozen (p := ⟨X, 0, none⟩) hl).trans h.f0, (hB.frozen (p := ⟨X, 1, none⟩) hl).trans h.f1⟩
theorem Box2.drewN {w : World} {X : Nat} {u v : Value} (h : Box2 w X u v) (q : Nat) : Box2 (w.drewN q) X u v := ⟨h.c0, h.c1, h.f0, h.f1⟩
theorem Box2.drew {w : World} {X : Nat} {u v : Value} (h : Box2 w X u v) : Box2 w.drew X u v := ⟨h.c0, h.c1, h.f0, h.f1⟩
theorem Box2.set {w : World} {X : Nat} {u v : Value} (h : Box2 w X u v) (u' v' : Value) : Box2 ((w.setCell ⟨X, 0, none⟩ u').setCell ⟨X, 1, none⟩ v') X u' v' := by
  have h0 := h.c0
  have h1 := h.c1
  have h2 := h.f0
  have h3 := h.f1
  refine ⟨?_, ?_, ?_, ?_⟩ <;> simp [*, go_sem]
theorem Box2.far {w : World} {X Y : Nat} {u v : Value} (h : Box2 w X u v) (hY : X ≠ Y) (a b : Value) : Box2 ((w.setCell ⟨Y, 0, none⟩ a).setCell ⟨Y, 1, none⟩ b) X u v := by
  have hb (w : World) (o : Nat) (x : Value) : (w.setCell ⟨Y, o, none⟩ x).heap[X]? = w.heap[X]? := Below.heap_setCell _ _ _ _ hY
  have e : ((w.setCell ⟨Y, 0, none⟩ a).setCell ⟨Y, 1, none⟩ b).heap[X]? = w.heap[X]? := (hb _ _ _).trans (hb _ _ _)
  exact ⟨(World.cell?_of_block (w := w) e).trans h.c0, (World.cell?_of_block (w := w) e).trans h.c1, (World.frozen?_of_block (w := w) e).trans h.f0, (World.frozen?_of_block (w := w) e).trans h.f1⟩
theorem box2_new (w : World) (u v : Value) (t : TypeId) : Box2 (w.alloc (.cells #[u, v] t)) w.heap.size u v := by
  refine ⟨?_, ?_, ?_, ?_⟩ <;> simp
theorem own2 {w wr : World} (h : Below w.heap.size w wr) {X : Nat} (hX : w.heap.size ≤ X) (a b : Value) : Below w.heap.size w ((wr.setCell ⟨X, 0, none⟩ a).setCell ⟨X, 1, none⟩ b) :=
  (h.setCell (p := ⟨X, 0, none⟩) hX _).setCell (p := ⟨X, 1, none⟩) hX _
theorem chain {w a b : World} (h1 : Below w.heap.size w a) (h2 : Below a.heap.size a b) : Below w.heap.size w b := h1.trans (h2.mono h1.size)
end Go.Proofs.YtphjbbbnbmafnabGreatDoor

namespace Go.Proofs.YtphjbbbnbmafnabGreatDoor

/-- how many numbers from x up to y are below c -/
def bel (l : List Nat) (x y c : Nat) : Nat := (((l.take y).drop x).filter (fun z => decide (z < c))).length
/-- how many of them are c -/
def eqn (l : List Nat) (x y c : Nat) : Nat := (((l.take y).drop x).filter (fun z => z == c)).length
theorem eqn_cnt {l : List Nat} {x y : Nat} (c : Nat) (h1 : x ≤ y) (h2 : y ≤ l.length) : eqn l x y c + cnt (eqf l c) x = cnt (eqf l c) y := by
  unfold eqn
  rw [cnt_eqf l c y h2, cnt_eqf l c x (by omega)]
  have e : l.take y = l.take x ++ (l.take y).drop x := by
    have := List.take_append_drop x (l.take y)
    rw [List.take_take, Nat.min_eq_left h1] at this
    exact this.symm
  conv => rhs; rw [e, List.filter_append, List.length_append]
  omega
theorem bel_le (l : List Nat) (x y c : Nat) : bel l x y c ≤ l.length := by
  unfold bel
  refine Nat.le_trans (List.length_filter_le _ _) ?_
  simp; omega
/-- the k-th least number is one alone -/
theorem least_uniq {s : List Nat} {k c e : Nat} (h1 : (s.filter (fun z => decide (z < c))).length ≤ k) (h2 : k < (s.filter (fun z => decide (z < c))).length + (s.filter (fun z => z == c)).length)
    (h3 : (s.filter (fun z => decide (z < e))).length ≤ k) (h4 : k < (s.filter (fun z => decide (z < e))).length + (s.filter (fun z => z == e)).length) : c = e := by
  have key : ∀ a b, a < b → (s.filter (fun z => decide (z < a))).length + (s.filter (fun z => z == a)).length ≤ (s.filter (fun z => decide (z < b))).length := by
    intro a b hab
    clear h1 h2 h3 h4
    induction s with
    | nil => simp
    | cons z r ih =>
      simp only [List.filter_cons]
      rcases Nat.lt_trichotomy z a with h | h | h
      · have e1 : decide (z < a) = true := by simpa using h
        have e2 : (z == a) = false := by simp; omega
        have e3 : decide (z < b) = true := by simp; omega
        rw [e1, e2, e3]; simp only [if_true, Bool.false_eq_true, if_false, List.length_cons]; omega
      · have e1 : decide (z < a) = false := by simp; omega
        have e2 : (z == a) = true := by simpa using h
        have e3 : decide (z < b) = true := by simp; omega
        rw [e1, e2, e3]; simp only [if_true, Bool.false_eq_true, if_false, List.length_cons]; omega
      · have e1 : decide (z < a) = false := by simp; omega
        have e2 : (z == a) = false := by simp; omega
        rw [e1, e2]
        simp only [Bool.false_eq_true, if_false]
        cases decide (z < b) <;> simp only [if_true, Bool.false_eq_true, if_false, List.length_cons] <;> omega
  rcases Nat.lt_trichotomy c e with h | h | h
  · have := key c e h; omega
  · exact h
  · have := key e c h; omega
end Go.Proofs.YtphjbbbnbmafnabGreatDoor

namespace Go.Proofs.YtphjbbbnbmafnabGreatDoor.S16
open Go.RowKit Go.Proofs.YtphjbbbnbmafnabGreatDoor

theorem and_bit (c d : Nat) (hc : c < 2 ^ 16) (hd : d < 16) : (bits .and .u16 (c : Int) (bitv 16 d) != 0) = c.testBit (16 - 1 - d) := by
  unfold bitv
  rw [u16_and_nat c _ hc (Nat.pow_lt_pow_right (by decide) (show 16 - 1 - d < 16 by omega))]
  exact bit_ne c _
set_option maxHeartbeats 400000 in
theorem bitAt_any {w : World} {b g : Nat} {l : List Nat} (hs : SeqAt 16 w b g l) (d : Nat) (hd : d < 16) :
    Calls Tryz.prog 80 #[.pointer (some ⟨b, 0, none⟩), .int .i64 (d : Int)] w fun e w' => e = .returned (.int .u16 (bitv 16 d)) ∧ w' = w := by
  have h1 := hs.levels
  go_enter Tryz.func80, Tryz.ntmps80
  go_wp2
  go_ret
  refine ⟨ret1_int ?_, rfl⟩
  have hp : 2 ^ (16 - 1 - d) < 2 ^ 16 := Nat.pow_lt_pow_right (by decide) (by omega)
  unfold bitv
  rw [← two_pow_int]
  try rw [IntKind.wrap_u16]
  simp only [Nat.reducePow, Nat.reduceSub] at hp ⊢
  generalize 2 ^ _ = m at *
  omega
theorem led_next {l : List Nat} {c d t : Nat} (o : Bool) (ho : o = c.testBit (16 - 1 - d)) : down (bitf (lev 16 l d) (16 - 1 - d)) l.length o (led 16 l c d t) = led 16 l c (d + 1) t := by
  rw [ho]; rfl
theorem box_next {w : World} {X : Nat} {l : List Nat} {c d x y : Nat} {o : Bool} (ho : o = c.testBit (16 - 1 - d))
    (h : Box2 w X (.int .i64 (down (bitf (lev 16 l d) (16 - 1 - d)) l.length o (led 16 l c d x) : Int)) (.int .i64 (down (bitf (lev 16 l d) (16 - 1 - d)) l.length o (led 16 l c d y) : Int))) :
    Box2 w X (.int .i64 (led 16 l c (d + 1) x : Int)) (.int .i64 (led 16 l c (d + 1) y : Int)) := by
  rw [led_next o ho, led_next o ho] at h; exact h
set_option maxHeartbeats 2000000 in
/-! ### At -/
theorem or_bit {d P : Nat} (hd : d < 16) (hP : P < 2 ^ d) : bits .or .u16 (acc 16 d P) (bitv 16 d) = acc 16 (d + 1) (2 * P + 1) := by
  unfold acc bitv
  rw [u16_or_nat _ _ (acc_lt (by omega) hP) (Nat.pow_lt_pow_right (by decide) (show 16 - 1 - d < 16 by omega)), acc_one hd]
theorem acc_all (x : Nat) : acc 16 16 (x / 2 ^ (16 - 16)) = (x : Int) := by unfold acc; simp
theorem acc_none {x : Nat} (hx : x < 2 ^ 16) : acc 16 0 (x / 2 ^ (16 - 0)) = 0 := by unfold acc; rw [Nat.sub_zero, Nat.div_eq_of_lt hx]; simp
theorem acc_false {d x : Nat} (hd : d < 16) (h : x.testBit (16 - 1 - d) = false) : acc 16 d (x / 2 ^ (16 - d)) = acc 16 (d + 1) (x / 2 ^ (16 - (d + 1))) := by
  have := pre_step x (16 - (d + 1))
  rw [show 16 - (d + 1) + 1 = 16 - d by omega, show x.testBit (16 - (d + 1)) = false by rw [← h]; congr 1; omega] at this
  rw [this, acc_zero hd]; rfl
theorem acc_true {d x : Nat} (hd : d < 16) (hx : x < 2 ^ 16) (h : x.testBit (16 - 1 - d) = true) : bits .or .u16 (acc 16 d (x / 2 ^ (16 - d))) (bitv 16 d) = acc 16 (d + 1) (x / 2 ^ (16 - (d + 1))) := by
  have := pre_step x (16 - (d + 1))
  rw [show 16 - (d + 1) + 1 = 16 - d by omega, show x.testBit (16 - (d + 1)) = true by rw [← h]; congr 1; omega] at this
  rw [this, or_bit hd (pre_lt (by omega) hx)]; rfl
set_option maxHeartbeats 400000 in
theorem at_no {w : World} {b g : Nat} {l : List Nat} (hs : SeqAt 16 w b g l) (i : Int) (h : i < 0 ∨ (l.length : Int) ≤ i) :
    Calls Tryz.prog 111 #[.pointer (some ⟨b, 0, none⟩), .int .i64 i] w fun e w' => e = .returned (.tuple #[.int .u16 0, .int .i64 1]) ∧ Below w.heap.size w w' := by
  have h0 := hs.len
  rcases h with h | h
  · go_enter Tryz.func111, Tryz.ntmps111
    go_wp2
    go_ret2
    exact ⟨rfl, Below.refl _ _⟩
  · have h1 : ¬ i < 0 := by omega
    go_enter Tryz.func111, Tryz.ntmps111
    go_wp2
    go_ret2
    exact ⟨rfl, Below.refl _ _⟩
set_option maxHeartbeats 2000000 in
theorem at_yes {w : World} {b g : Nat} {l : List Nat} (hs : SeqAt 16 w b g l) (i x : Nat) (hx : l[i]? = some x) :
    Calls Tryz.prog 111 #[.pointer (some ⟨b, 0, none⟩), .int .i64 (i : Int)] w fun e w' => e = .returned (.tuple #[.int .u16 (x : Int), .int .i64 0]) ∧ Below w.heap.size w w' := by
  have h0 := hs.len
  have h1 := hs.levels
  have hn := hs.hn
  have hi : i < l.length := by
    have := (led_at hx hs.lt 0 (by decide)).2
    exact this
  have hxB : x < 2 ^ 16 := hs.lt x (List.mem_of_getElem? hx)
  have hi0 : ¬ (i : Int) < 0 := by omega
  have HS : Hid _ := hs
  have HX : Hid (l[i]? = some x) := hx
  clear hs hx
  go_enter Tryz.func111, Tryz.ntmps111
  go_wp2
  go_loopw [1, 6, 25] (fun si sc sd wr => ∃ d q : Nat, d ≤ 16 ∧ sd = .int .i64 d ∧ si = .int .i64 (led 16 l x d i : Int) ∧ sc = .int .u16 (acc 16 d (x / 2 ^ (16 - d))) ∧ wr = w.drewN q) (fun _ _ sd _ => 16 - (intOf sd).toNat)
  case atStart => exact ⟨0, 0, Nat.zero_le _, rfl, rfl, by rw [acc_none hxB], rfl⟩
  case round =>
    obtain ⟨d, q, hd, rfl, rfl, rfl, rfl⟩ := hrel
    by_cases hlt : d < 16
    · obtain ⟨bb, bw, ba, W, hcell, hbits⟩ := HS.out.level d hlt
      obtain ⟨hat, hle⟩ := led_at HX.out HS.out.lt d (by omega)
      have hdI : (d : Int) < 16 := by omega
      have ho := isOne_any (hbits.drewN q) (led 16 l x d i) (by omega)
      rw [bitf_at hat] at ho
      have HO : Hid (Calls Tryz.prog 132 _ _ _) := ho
      have HB : Hid _ := hbits
      clear ho hbits hat
      cases hbit : x.testBit (16 - 1 - d)
      · rw [hbit] at HO
        have HA : Hid _ := acc_false hlt hbit
        have HL : Hid _ := led_next (l := l) (t := i) false hbit.symm
        clear hbit
        go_wp2_with fail
        refine HO.out.mono ?_
        rintro e w1 ⟨rfl, rfl⟩
        go_wp2_with fail
        refine (down_any (HB.out.drewN q) false _ (by omega) _ rfl).mono ?_
        rintro e w1 ⟨rfl, q2, rfl⟩
        go_wp2
        go_roundw
        case rel => exact ⟨d + 1, q + q2, by omega, by go_num, by rw [HL.out], by rw [HA.out], rfl⟩
        case measure => simp [intOf]; omega
      · rw [hbit] at HO
        have HA : Hid _ := acc_true hlt hxB hbit
        have HL : Hid _ := led_next (l := l) (t := i) true hbit.symm
        clear hbit
        go_wp2_with fail
        refine HO.out.mono ?_
        rintro e w1 ⟨rfl, rfl⟩
        go_wp2_with fail
        refine (bitAt_any (HS.out.drewN q) d hlt).mono ?_
        rintro e w1 ⟨rfl, rfl⟩
        go_wp2_with fail
        refine (down_any (HB.out.drewN q) true _ (by omega) _ rfl).mono ?_
        rintro e w1 ⟨rfl, q2, rfl⟩
        go_wp2
        go_roundw
        case rel => exact ⟨d + 1, q + q2, by omega, by go_num, by rw [HL.out], by rw [HA.out], rfl⟩
        case measure => simp [intOf]; omega
    · obtain rfl : d = 16 := by omega
      have HA : Hid _ := acc_all x
      go_wp2
      go_ret2
      exact ⟨by rw [← HA.out]; rfl, below_drewN (Below.refl _ _) _⟩
end Go.Proofs.YtphjbbbnbmafnabGreatDoor.S16

namespace Go.Proofs.YtphjbbbnbmafnabGreatDoor.S16
open Go.RowKit Go.Proofs.YtphjbbbnbmafnabGreatDoor

end Go.Proofs.YtphjbbbnbmafnabGreatDoor.S16

namespace Go.Proofs.YtphjbbbnbmafnabGreatDoor.S16
open Go.RowKit Go.Proofs.YtphjbbbnbmafnabGreatDoor

theorem bel_first (s : List Nat) (c : Nat) (hc : c < 2 ^ 16) : (s.filter (fun z => decide (z / 2 ^ (16 - 0) < c / 2 ^ (16 - 0)))).length = 0 := by
  rw [Nat.sub_zero, Nat.div_eq_of_lt hc]
  simp
theorem bel_last (l : List Nat) (x y c : Nat) : (((l.take y).drop x).filter (fun z => decide (z / 2 ^ (16 - 16) < c / 2 ^ (16 - 16)))).length = bel l x y c := by
  unfold bel; simp
theorem bel_step {s : List Nat} {c d : Nat} (hd : d < 16) (o : Bool) (ho : c.testBit (16 - 1 - d) = o) : (s.filter (fun z => decide (z / 2 ^ (16 - (d + 1)) < c / 2 ^ (16 - (d + 1))))).length = (s.filter (fun z => decide (z / 2 ^ (16 - d) < c / 2 ^ (16 - d)))).length + (if o then ((s.filter (fun z => z / 2 ^ (16 - d) == c / 2 ^ (16 - d))).filter (fun z => z.testBit (16 - 1 - d) == false)).length else 0) := by
  have h := below_step s (c / 2 ^ (16 - d)) (16 - 1 - d) o
  rw [show 16 - 1 - d + 1 = 16 - d by omega] at h
  rw [← h, show 16 - (d + 1) = 16 - 1 - d by omega, pre_step c (16 - 1 - d), ho, show 16 - 1 - d + 1 = 16 - d by omega]

theorem bel_num {N a b m : Nat} (h : b = a + m) : Value.int .i64 ((N : Int) + ((b : Int) - (a : Int))) = .int .i64 ((N + m : Nat) : Int) := by
  congr 1
  omega
set_option maxHeartbeats 2000000 in
theorem below_no {w : World} {b g : Nat} {l : List Nat} (hs : SeqAt 16 w b g l) (c x y : Int) (h : ¬ (0 ≤ x ∧ x ≤ y ∧ y ≤ (l.length : Int))) :
    Calls Tryz.prog 119 #[.pointer (some ⟨b, 0, none⟩), .agg #[.int .i64 x, .int .i64 y], .int .u16 c] w fun e w' => e = .returned (.tuple #[.int .i64 0, .int .i64 1]) ∧ Below w.heap.size w w' := by
  have hnew : Below w.heap.size w (w.alloc (.cells #[.int .i64 x, .int .i64 y] 133)) := (Below.refl _ _).alloc (Nat.le_refl _) _
  have h0 := (hs.below hnew).len
  have HSp : Hid (∀ w2, Calls Tryz.prog 93 _ w2 _) := fun w2 => isSpan_any x y (l.length : Int) w2
  rw [decide_eq_false h] at HSp
  have HB : Hid _ := hnew
  clear hnew h
  go_enter Tryz.func119, Tryz.ntmps119
  go_wp2
  go_region_held (fun w' => w'.cell? ⟨w.heap.size, 0, none⟩ = some (.int .i64 x) ∧ w'.cell? ⟨w.heap.size, 1, none⟩ = some (.int .i64 y) ∧ w'.cell? ⟨b, 0, none⟩ = some (.int .i64 (l.length : Int))) (go_keep) (first
    | (go_at_call 93; refine (HSp.out _).mono ?_; rintro e w' ⟨rfl, hB⟩; have q0 := cell_kept hB ⟨w.heap.size, 0, none⟩ (.int .i64 x) (by simp); have q1 := cell_kept hB ⟨w.heap.size, 1, none⟩ (.int .i64 y) (by simp); have q2 := cell_kept hB ⟨b, 0, none⟩ (.int .i64 (l.length : Int)) h0))
  go_wp2
  go_ret2
  exact ⟨rfl, chain (HB.out.drew) hB⟩
set_option maxHeartbeats 4000000 in
theorem below_yes {w : World} {b g : Nat} {l : List Nat} (hs : SeqAt 16 w b g l) (c x y : Nat) (hc : c < 2 ^ 16) (hxy : x ≤ y) (hy : y ≤ l.length) :
    Calls Tryz.prog 119 #[.pointer (some ⟨b, 0, none⟩), .agg #[.int .i64 (x : Int), .int .i64 (y : Int)], .int .u16 (c : Int)] w fun e w' => e = .returned (.tuple #[.int .i64 (bel l x y c : Int), .int .i64 0]) ∧ Below w.heap.size w w' := by
  have hnew : Below w.heap.size w (w.alloc (.cells #[.int .i64 (x : Int), .int .i64 (y : Int)] 133)) := (Below.refl _ _).alloc (Nat.le_refl _) _
  have h0 := (hs.below hnew).len
  have h1 := (hs.below hnew).levels
  have hn := hs.hn
  have HSp : Hid (∀ w2, Calls Tryz.prog 93 _ w2 _) := fun w2 => isSpan_any (x : Int) (y : Int) (l.length : Int) w2
  rw [decide_eq_true (show (0 : Int) ≤ (x : Int) ∧ (x : Int) ≤ (y : Int) ∧ (y : Int) ≤ (l.length : Int) by omega)] at HSp
  have HB : Hid _ := hnew
  have HX0 : Hid _ := box2_new w (.int .i64 (x : Int)) (.int .i64 (y : Int)) 133
  have HS : Hid _ := hs
  have hsl : ((l.take y).drop x).length ≤ l.length := by simp; omega
  have HF : Hid _ := bel_first ((l.take y).drop x) c hc
  clear hnew hs
  go_enter Tryz.func119, Tryz.ntmps119
  go_wp2
  go_region_held (fun w' => w'.cell? ⟨w.heap.size, 0, none⟩ = some (.int .i64 (x : Int)) ∧ w'.cell? ⟨w.heap.size, 1, none⟩ = some (.int .i64 (y : Int)) ∧ w'.cell? ⟨b, 0, none⟩ = some (.int .i64 (l.length : Int))) (go_keep) (first
    | (go_at_call 93; refine (HSp.out _).mono ?_; rintro e w' ⟨rfl, hB⟩; have q0 := cell_kept hB ⟨w.heap.size, 0, none⟩ (.int .i64 (x : Int)) (by simp); have q1 := cell_kept hB ⟨w.heap.size, 1, none⟩ (.int .i64 (y : Int)) (by simp); have q2 := cell_kept hB ⟨b, 0, none⟩ (.int .i64 (l.length : Int)) h0))
  have hl1 := cell_kept hB ⟨b, 1, none⟩ (.slice (some ⟨g, 0, none⟩) 16 16) h1
  have hX1 := (HX0.out.drew).below hB
  have hb1 := chain (HB.out.drew) hB
  clear q0 q1 q2 hB h0 h1
  go_wp2
  go_loopw [8, 24] (fun sb sd wr => ∃ d : Nat, d ≤ 16 ∧ sd = .int .i64 d ∧ sb = .int .i64 ((((l.take y).drop x).filter (fun z => decide (z / 2 ^ (16 - d) < c / 2 ^ (16 - d)))).length : Int) ∧ Box2 wr w.heap.size (.int .i64 (led 16 l c d x : Int)) (.int .i64 (led 16 l c d y : Int)) ∧ Below w.heap.size w wr) (fun _ sd _ => 16 - (intOf sd).toNat)
  case atStart => exact ⟨0, Nat.zero_le _, rfl, by rw [HF.out]; rfl, hX1, hb1⟩
  case round =>
    clear hl1 hX1 hb1
    obtain ⟨d, hd, rfl, rfl, hX, hbel⟩ := hrel
    by_cases hlt : d < 16
    · have hs1 := HS.out.below hbel
      obtain ⟨bb, bw, ba, W, hcell, hbits⟩ := hs1.level d hlt
      have hll := led_le c hc hs1.lt hxy hy d (by omega)
      have hdI : (d : Int) < 16 := by omega
      have hA := and_bit c d hc hlt
      have k0 := hX.c0
      have k1 := hX.c1
      have f0 := hX.f0
      have f1 := hX.f1
      have HX : Hid _ := hX
      have HBe : Hid _ := hbel
      have HS1 : Hid _ := hs1
      have HB1 : Hid _ := hbits
      have hsf := List.length_filter_le (fun z => decide (z / 2 ^ (16 - d) < c / 2 ^ (16 - d))) ((l.take y).drop x)
      generalize hN : (((l.take y).drop x).filter (fun z => decide (z / 2 ^ (16 - d) < c / 2 ^ (16 - d)))).length = N0 at hsf ⊢
      have HN : Hid (_ = N0) := hN
      clear hX hbel hs1 hbits hN
      cases hbit : c.testBit (16 - 1 - d)
      · rw [hbit] at hA
        have HBS : Hid _ := bel_step (s := (l.take y).drop x) hlt false hbit
        have HBI : Hid _ := hbit
        clear hbit
        go_wp2_with fail
        refine (bitAt_any HS1.out d hlt).mono ?_
        rintro e w1 ⟨rfl, rfl⟩
        go_wp2_with fail
        refine (narrow_any HB1.out false _ _ (by omega) (by omega) _ _ rfl rfl).mono ?_
        rintro e w1 ⟨rfl, hB⟩
        have hX2 := HX.out.below hB
        have j0 := hX2.c0
        have j1 := hX2.c1
        have g0 := hX2.f0
        have g1 := hX2.f1
        go_wp2
        go_roundw
        case rel => exact ⟨d + 1, by omega, by go_num, by rw [HBS.out, HN.out]; rfl, box_next HBI.out.symm (hX2.set _ _), own2 (chain HBe.out hB) (Nat.le_refl _) _ _⟩
        case measure => simp [intOf]; omega
      · rw [hbit] at hA
        have hbs := bel_step (s := (l.take y).drop x) hlt true hbit
        rw [if_pos rfl] at hbs
        have HBI : Hid _ := hbit
        have hz := seg_len (seg_down (16 - 1 - d) (seg_led c (seg_of l x y hxy hy) hc HS1.out.lt d (by omega)) false)
        rw [lev_length, part_length, lev_length] at hz
        simp only [Nat.reduceSub] at hz hbs
        obtain ⟨hz1, hz2⟩ := hz
        have hz3 := Nat.le_trans (Nat.le.intro hz1.symm) hz2
        have HZ : Hid _ := hz1
        have HBS : Hid _ := hbs
        clear hbit hz1 hbs
        go_wp2_with fail
        refine (bitAt_any HS1.out d hlt).mono ?_
        rintro e w1 ⟨rfl, rfl⟩
        go_wp2_with fail
        refine (narrow_any HB1.out false _ _ (by omega) (by omega) _ _ rfl rfl).mono ?_
        rintro e w1 ⟨rfl, hB⟩
        go_wp2_with fail
        refine (long_any _ _ (by omega) (by omega) _).mono ?_
        rintro e w2 ⟨rfl, hB2⟩
        have hB3 := chain hB hB2
        have hX2 := HX.out.below hB3
        have j0 := hX2.c0
        have j1 := hX2.c1
        go_wp2_with fail
        refine (narrow_any (HB1.out.below hB3) true _ _ (by omega) (by omega) _ _ rfl rfl).mono ?_
        rintro e w3 ⟨rfl, hB4⟩
        have hX3 := hX2.below hB4
        have i0 := hX3.c0
        have i1 := hX3.c1
        have g0 := hX3.f0
        have g1 := hX3.f1
        go_wp2
        go_roundw
        case rel => exact ⟨d + 1, by omega, by go_num, by simp only [HBS.out, HN.out]; exact bel_num HZ.out, box_next HBI.out.symm (hX3.set _ _), own2 (chain (chain HBe.out hB3) hB4) (Nat.le_refl _) _ _⟩
        case measure => simp [intOf]; omega
    · obtain rfl : d = 16 := by omega
      have HL : Hid _ := bel_last l x y c
      rw [HL.out]
      go_wp2
      go_ret2
      exact ⟨rfl, hbel⟩

/-! ### Least -/
end Go.Proofs.YtphjbbbnbmafnabGreatDoor.S16

namespace Go.Proofs.YtphjbbbnbmafnabGreatDoor.S16
open Go.RowKit Go.Proofs.YtphjbbbnbmafnabGreatDoor

/-- what is left of a span at level d: those that begin with the bits P -/
structure Left (l s : List Nat) (k d P kd A Z : Nat) : Prop where
  seg : Seg (lev 16 l d) A Z (s.filter (fun z => z / 2 ^ (16 - d) == P))
  sum : (s.filter (fun z => decide (z / 2 ^ (16 - d) < P))).length + kd = k
  has : kd < (s.filter (fun z => z / 2 ^ (16 - d) == P)).length
  lt : P < 2 ^ d
theorem Left.len {l s : List Nat} {k d P kd A Z : Nat} (h : Left l s k d P kd A Z) : A ≤ Z ∧ Z ≤ l.length := by
  have := seg_len h.seg
  rw [lev_length] at this
  omega
theorem left_first {l : List Nat} {k x y : Nat} (hl : ∀ z ∈ l, z < 2 ^ 16) (hxy : x ≤ y) (hy : y ≤ l.length) (hk : k < y - x) : Left l ((l.take y).drop x) k 0 0 k x y := by
  have e : ((l.take y).drop x).filter (fun z => z / 2 ^ (16 - 0) == 0) = (l.take y).drop x := by
    rw [List.filter_eq_self]
    intro z hz
    rw [Nat.sub_zero, Nat.div_eq_of_lt (hl z (List.mem_of_mem_take (List.mem_of_mem_drop hz)))]; rfl
  refine ⟨?_, ?_, ?_, by decide⟩
  · rw [e]; exact seg_of l x y hxy hy
  · simp
  · rw [e]; simp; omega
/-- the zeros of what is left -/
theorem left_zeros {l s : List Nat} {k d P kd A Z : Nat} (h : Left l s k d P kd A Z) :
    down (bitf (lev 16 l d) (16 - 1 - d)) l.length false Z = down (bitf (lev 16 l d) (16 - 1 - d)) l.length false A + ((s.filter (fun z => z / 2 ^ (16 - d) == P)).filter (fun z => z.testBit (16 - 1 - d) == false)).length ∧ down (bitf (lev 16 l d) (16 - 1 - d)) l.length false Z ≤ l.length := by
  have := seg_len (seg_down (16 - 1 - d) h.seg false)
  rw [lev_length, part_length, lev_length] at this
  exact this
theorem left_next {l s : List Nat} {k d P kd A Z : Nat} (hd : d < 16) (h : Left l s k d P kd A Z) (o : Bool) (kd' : Nat)
    (ho : (o = false ∧ kd' = kd ∧ kd < ((s.filter (fun z => z / 2 ^ (16 - d) == P)).filter (fun z => z.testBit (16 - 1 - d) == false)).length) ∨
      (o = true ∧ kd = kd' + ((s.filter (fun z => z / 2 ^ (16 - d) == P)).filter (fun z => z.testBit (16 - 1 - d) == false)).length)) :
    Left l s k (d + 1) (2 * P + o.toNat) kd' (down (bitf (lev 16 l d) (16 - 1 - d)) l.length o A) (down (bitf (lev 16 l d) (16 - 1 - d)) l.length o Z) := by
  have e1 : 16 - (d + 1) = 16 - 1 - d := by omega
  have e2 : 16 - d = 16 - 1 - d + 1 := by omega
  have h1 := seg_down (16 - 1 - d) h.seg o
  have h2 := below_step s P (16 - 1 - d) o
  have h3 := filter_split (16 - 1 - d) (s.filter (fun z => z / 2 ^ (16 - d) == P))
  have h4 := h.sum
  have h5 := h.has
  have h6 := filter_step s P (16 - 1 - d) o
  rw [← e2] at h2 h6
  rw [h6, lev_length] at h1
  refine ⟨by rw [e1]; exact h1, ?_, ?_, ?_⟩
  · rw [e1, h2]
    rcases ho with ⟨rfl, rfl, _⟩ | ⟨rfl, e⟩
    · simpa using h4
    · rw [if_pos rfl]; omega
  · rw [e1, ← h6]
    rcases ho with ⟨rfl, rfl, e⟩ | ⟨rfl, e⟩
    · exact e
    · omega
  · have := h.lt
    have := Bool.toNat_le o
    rw [Nat.pow_succ]; omega
theorem left_last {l : List Nat} {k P kd A Z x y : Nat} (h : Left l ((l.take y).drop x) k 16 P kd A Z) : bel l x y P ≤ k ∧ k < bel l x y P + eqn l x y P ∧ P < 2 ^ 16 := by
  have h1 := h.sum
  have h2 := h.has
  simp only [Nat.sub_self, Nat.pow_zero, Nat.div_one] at h1 h2
  unfold bel eqn
  exact ⟨by omega, by omega, h.lt⟩
theorem acc_end (P : Nat) : acc 16 16 P = (P : Int) := by unfold acc; simp

end Go.Proofs.YtphjbbbnbmafnabGreatDoor.S16
