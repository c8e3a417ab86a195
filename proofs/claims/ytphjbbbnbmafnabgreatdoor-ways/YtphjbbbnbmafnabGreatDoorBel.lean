/-
  What a sequence asks of a level's vector of bits that lies in memory as said: isOne, zeros, down, up, narrow answer what they say (places of that vector), and the spans' two small functions isSpan and long; nothing that was there is written.
  How many numbers of a stretch of a list are below one, and how many are it; that the k-th least of them is one alone. No condition.
-/
import Derived.Test.YtphjbbbnbmafnabGreatDoorSeqMath
import Derived.Deep.RegionHeld
namespace Go.Proofs.YtphjbbbnbmafnabGreatDoor
open Go.RowKit

theorem one_bit (x i : Nat) (hx : x < 18446744073709551616) : (bits .and .u64 ((x : Int) / 2 ^ i) 1 == 1) = x.testBit i := by
  have e : ((x : Int) / 2 ^ i) = ((x / 2 ^ i : Nat) : Int) := by rw [Int.natCast_ediv]; simp
  have hl : x / 2 ^ i < 18446744073709551616 := Nat.lt_of_le_of_lt (Nat.div_le_self _ _) hx
  have q : bits .and .u64 ((x / 2 ^ i : Nat) : Int) 1 = ((x / 2 ^ i &&& 1 : Nat) : Int) := u64_and_nat _ 1 hl (by decide)
  rw [e, q, Nat.testBit_eq_decide_div_mod_eq, Nat.and_one_is_mod]
  generalize x / 2 ^ i % 2 = m
  by_cases h : m = 1
  · subst h; rfl
  · have : ¬ ((m : Int) = 1) := by omega
    simp [h, this]
theorem ret_bool {a b : Bool} (h : a = b) : Ending.returned (.bool a) = .returned (.bool b) := by rw [h]
set_option maxHeartbeats 400000 in
theorem isOne_any {w : World} {b bw ba n : Nat} {f : Nat → Bool} {W : Nat → Nat} (hb : BitsAt w b bw ba f n W) (i : Nat) (h : i ≤ n) :
    Calls Tryz.prog 132 #[.pointer (some ⟨b, 0, none⟩), .int .i64 (i : Int)] w fun e w' => e = .returned (.bool (f i)) ∧ w' = w := by
  have h2 := hb.words
  have hn := hb.hn
  have hw := hb.word (i / 64) (by omega)
  have hl := hb.wlt (i / 64)
  have hi1 : (i : Int) / 64 < ((n / 64 + 1 : Nat) : Int) := by omega
  have e := hb.wbit (i / 64) (i % 64) (by omega)
  rw [show 64 * (i / 64) + i % 64 = i by omega] at e
  have HE : Hid _ := e
  clear e
  go_enter Tryz.func132, Tryz.ntmps132
  go_wp2
  go_ret
  exact ⟨ret_bool (by rw [← HE.out]; exact one_bit _ _ hl), rfl⟩
set_option maxHeartbeats 400000 in
theorem zeros_any {w : World} {b bw ba n : Nat} {f : Nat → Bool} {W : Nat → Nat} (hb : BitsAt w b bw ba f n W) :
    Calls Tryz.prog 148 #[.pointer (some ⟨b, 0, none⟩)] w fun e w' => e = .returned (.int .i64 ((n : Int) - (cnt f n : Int))) ∧ ∃ q, w' = w.drewN q := by
  have h0 := hb.len
  have h1 := hb.ones
  have hn := hb.hn
  have hc := cnt_le f n
  go_enter Tryz.func148, Tryz.ntmps148
  go_wp2
  go_quiet (fail)
  go_wp2
  go_ret
  exact ⟨rfl, _, rfl⟩
set_option maxHeartbeats 400000 in
theorem down_any {w : World} {b bw ba n : Nat} {f : Nat → Bool} {W : Nat → Nat} (hb : BitsAt w b bw ba f n W) (one : Bool) (i : Nat) (h : i ≤ n) (I : Int) (hI : I = (i : Int)) :
    Calls Tryz.prog 133 #[.pointer (some ⟨b, 0, none⟩), .int .i64 I, .bool one] w fun e w' => e = .returned (.int .i64 (down f n one i : Int)) ∧ ∃ q, w' = w.drewN q := by
  subst hI
  have hn := hb.hn
  have hc := cnt_le f n
  have hci := cnt_le f i
  cases one
  · have HD : Hid (((i : Int) - (cnt f i : Int)) = (down f n false i : Int)) := (by unfold down; simp; omega : _ = _)
    go_enter Tryz.func133, Tryz.ntmps133
    go_wp2_with fail
    refine (oa_any hb i h _ rfl).mono ?_
    rintro e w' ⟨rfl, q, rfl⟩
    go_wp2
    go_ret
    exact ⟨ret1_int HD.out, _, rfl⟩
  · have HD : Hid (((n : Int) - (cnt f n : Int) + (cnt f i : Int)) = (down f n true i : Int)) := (by unfold down; simp; omega : _ = _)
    go_enter Tryz.func133, Tryz.ntmps133
    go_wp2_with fail
    refine (zeros_any hb).mono ?_
    rintro e w' ⟨rfl, q, rfl⟩
    go_wp2_with fail
    refine (oa_any (hb.drewN _) i h _ rfl).mono ?_
    rintro e w' ⟨rfl, q, rfl⟩
    go_wp2
    go_ret
    exact ⟨ret1_int HD.out, _, rfl⟩
set_option maxHeartbeats 400000 in
theorem long_any (x y : Int) (hx : 0 ≤ x ∧ x ≤ 1000000) (hy : 0 ≤ y ∧ y ≤ 1000000) (w : World) :
    Calls Tryz.prog 117 #[.agg #[.int .i64 x, .int .i64 y]] w fun e w' => e = .returned (.int .i64 (y - x)) ∧ Below w.heap.size w w' := by
  go_enter Tryz.func117, Tryz.ntmps117
  go_wp2
  go_ret
  exact ⟨rfl, (Below.refl _ _).alloc (Nat.le_refl _) _⟩
set_option maxHeartbeats 400000 in
theorem isSpan_any (x y n : Int) (w : World) :
    Calls Tryz.prog 93 #[.agg #[.int .i64 x, .int .i64 y], .int .i64 n] w fun e w' => e = .returned (.bool (decide (0 ≤ x ∧ x ≤ y ∧ y ≤ n))) ∧ Below w.heap.size w w' := by
  by_cases h1 : 0 ≤ x
  · by_cases h2 : x ≤ y
    · by_cases h3 : y ≤ n
      · have HD : Hid _ := decide_eq_true (show 0 ≤ x ∧ x ≤ y ∧ y ≤ n from ⟨h1, h2, h3⟩)
        rw [HD.out]
        go_enter Tryz.func93, Tryz.ntmps93
        go_wp2
        go_ret
        exact ⟨rfl, (Below.refl _ _).alloc (Nat.le_refl _) _⟩
      · have HD : Hid _ := decide_eq_false (show ¬ (0 ≤ x ∧ x ≤ y ∧ y ≤ n) from fun h => h3 h.2.2)
        rw [HD.out]
        go_enter Tryz.func93, Tryz.ntmps93
        go_wp2
        go_ret
        exact ⟨rfl, (Below.refl _ _).alloc (Nat.le_refl _) _⟩
    · have HD : Hid _ := decide_eq_false (show ¬ (0 ≤ x ∧ x ≤ y ∧ y ≤ n) from fun h => h2 h.2.1)
      rw [HD.out]
      go_enter Tryz.func93, Tryz.ntmps93
      go_wp2
      go_ret
      exact ⟨rfl, (Below.refl _ _).alloc (Nat.le_refl _) _⟩
  · have HD : Hid _ := decide_eq_false (show ¬ (0 ≤ x ∧ x ≤ y ∧ y ≤ n) from fun h => h1 h.1)
    rw [HD.out]
    go_enter Tryz.func93, Tryz.ntmps93
    go_wp2
    go_ret
    exact ⟨rfl, (Below.refl _ _).alloc (Nat.le_refl _) _⟩
theorem two_below (w : World) (x y : Obj) : Below w.heap.size w ((w.alloc x).alloc y) := ((Below.refl _ _).alloc (Nat.le_refl _) _).alloc (by simp) _
set_option maxHeartbeats 1000000 in
/-- narrow: where a span's ones (zeros) lie in the next level -/
theorem narrow_any {w : World} {b bw ba n : Nat} {f : Nat → Bool} {W : Nat → Nat} (hb : BitsAt w b bw ba f n W) (one : Bool) (i j : Nat) (hi : i ≤ n) (hj : j ≤ n) (I J : Int) (hI : I = (i : Int)) (hJ : J = (j : Int)) :
    Calls Tryz.prog 141 #[.pointer (some ⟨b, 0, none⟩), .agg #[.int .i64 I, .int .i64 J], .bool one] w fun e w' => e = .returned (.agg #[.int .i64 (down f n one i : Int), .int .i64 (down f n one j : Int)]) ∧ Below w.heap.size w w' := by
  subst hI hJ
  have hB := two_below w (.cells #[.int .i64 (i : Int), .int .i64 (j : Int)] 133) (.cells #[.int .i64 0, .int .i64 0] 133)
  have hb1 := hb.below hB
  have HD : Hid (∀ w2, BitsAt w2 b bw ba f n W → ∀ t, t ≤ n → ∀ T : Int, T = (t : Int) → Calls Tryz.prog 133 _ w2 _) := fun w2 h2 t ht T hT => down_any h2 one t ht T hT
  have HB : Hid _ := hb1
  have HL : Hid _ := hB
  clear hb1 hB hb
  go_enter Tryz.func141, Tryz.ntmps141
  go_wp2
  go_region_held (fun w' => w'.cell? ⟨w.heap.size, 0, none⟩ = some (.int .i64 (i : Int)) ∧ w'.cell? ⟨w.heap.size, 1, none⟩ = some (.int .i64 (j : Int))) (go_keep)
    (first
      | (go_at_call_of 133 (Value.int IntKind.i64 (i : Int)); refine (HD.out _ ?_ i hi _ rfl).mono ?_; exact (HB.out.kept (fun _ _ h => h)); rintro e w' ⟨rfl, q1, rfl⟩)
      | (go_at_call_of 133 (Value.int IntKind.i64 (j : Int)); refine (HD.out _ ?_ j hj _ rfl).mono ?_; exact (HB.out.kept (fun _ _ h => h)); rintro e w' ⟨rfl, q2, rfl⟩))
  go_wp2
  refine bodyPost_ret (v := .agg #[.int .i64 (down f n one i : Int), .int .i64 (down f n one j : Int)]) (by simp [results, Tryz.results141, go_sem]) rfl ?_
  exact ⟨rfl, ((below_drewN HL.out _).setCell (p := ⟨w.heap.size + 1, 0, none⟩) (by simp) _).setCell (p := ⟨w.heap.size + 1, 1, none⟩) (by simp) _⟩
/-! ### A sequence in memory -/
/-- A sequence of numbers of B bits as NewSeq lays it: its struct in block b, its levels' pointers in block g. -/
structure SeqAt (B : Nat) (w : World) (b g : Nat) (l : List Nat) : Prop where
  hn : l.length ≤ 100000
  lt : ∀ x ∈ l, x < 2 ^ B
  len : w.cell? ⟨b, 0, none⟩ = some (.int .i64 (l.length : Int))
  levels : w.cell? ⟨b, 1, none⟩ = some (.slice (some ⟨g, 0, none⟩) B B)
  level : ∀ d, d < B → ∃ bb bw ba W, w.cell? ⟨g, d, none⟩ = some (.pointer (some ⟨bb, 0, none⟩)) ∧ BitsAt w bb bw ba (bitf (lev B l d) (B - 1 - d)) l.length W
theorem SeqAt.kept {B : Nat} {w w' : World} {b g : Nat} {l : List Nat} (hs : SeqAt B w b g l) (h : ∀ p v, w.cell? p = some v → w'.cell? p = some v) : SeqAt B w' b g l :=
  ⟨hs.hn, hs.lt, h _ _ hs.len, h _ _ hs.levels, fun d hd => by
    obtain ⟨bb, bw, ba, W, h1, h2⟩ := hs.level d hd
    exact ⟨bb, bw, ba, W, h _ _ h1, h2.kept h⟩⟩
theorem SeqAt.below {B : Nat} {w w' : World} {b g : Nat} {l : List Nat} (hs : SeqAt B w b g l) (hB : Below w.heap.size w w') : SeqAt B w' b g l := hs.kept (cell_kept hB)
theorem SeqAt.drewN {B : Nat} {w : World} {b g : Nat} {l : List Nat} (hs : SeqAt B w b g l) (q : Nat) : SeqAt B (w.drewN q) b g l := hs.kept (fun _ _ h => h)
/-- the number that has but the bit of level d -/
def bitv (B d : Nat) : Int := ((2 ^ (B - 1 - d) : Nat) : Int)
theorem bit_ne (x h : Nat) : (((x &&& 2 ^ h : Nat) : Int) != 0) = x.testBit h := by
  have e : x &&& 2 ^ h = (x.testBit h).toNat * 2 ^ h := by
    rw [nat_bit, Nat.testBit_eq_decide_div_mod_eq]
    have : x / 2 ^ h % 2 < 2 := Nat.mod_lt _ (by decide)
    rcases (show x / 2 ^ h % 2 = 0 ∨ x / 2 ^ h % 2 = 1 by omega) with e | e <;> rw [e] <;> simp
  rw [e]
  have hp : 0 < 2 ^ h := Nat.two_pow_pos h
  cases x.testBit h
  · simp
  · simp only [Bool.toNat_true, Nat.one_mul, bne_iff_ne, ne_eq]; omega
/-- the highest d bits P, and zeros behind them -/
def acc (B d P : Nat) : Int := ((P * 2 ^ (B - d) : Nat) : Int)
theorem acc_zero {B d P : Nat} (hd : d < B) : acc B d P = acc B (d + 1) (2 * P) := by
  unfold acc
  rw [show B - d = (B - (d + 1)) + 1 by omega, Nat.pow_succ]
  congr 1
  rw [Nat.mul_comm (2 ^ _) 2, ← Nat.mul_assoc, Nat.mul_comm P 2]
theorem acc_one {B d P : Nat} (hd : d < B) : (P * 2 ^ (B - d)) ||| 2 ^ (B - 1 - d) = (2 * P + 1) * 2 ^ (B - (d + 1)) := by
  rw [nat_join (B - d) _ _ (Nat.mul_mod_left _ _) (Nat.pow_lt_pow_right (by decide) (by omega))]
  rw [show B - d = (B - (d + 1)) + 1 by omega, Nat.pow_succ, show B - 1 - d = B - (d + 1) by omega, Nat.add_mul, Nat.one_mul]
  congr 1
  rw [Nat.mul_comm (2 ^ _) 2, ← Nat.mul_assoc, Nat.mul_comm P 2]
theorem acc_lt {B d P : Nat} (hd : d ≤ B) (hP : P < 2 ^ d) : P * 2 ^ (B - d) < 2 ^ B := by
  have e : 2 ^ B = 2 ^ d * 2 ^ (B - d) := by rw [← Nat.pow_add]; congr 1; omega
  rw [e]
  exact Nat.mul_lt_mul_of_pos_right hP (Nat.two_pow_pos _)
theorem pre_lt {B d x : Nat} (hd : d ≤ B) (hx : x < 2 ^ B) : x / 2 ^ (B - d) < 2 ^ d := by
  rw [Nat.div_lt_iff_lt_mul (Nat.two_pow_pos _), ← Nat.pow_add]
  rwa [show d + (B - d) = B by omega]
/-- two cells of a block of one's own -/
structure Box2 (w : World) (X : Nat) (u v : Value) : Prop where
  c0 : w.cell? ⟨X, 0, none⟩ = some u
  c1 : w.cell? ⟨X, 1, none⟩ = some v
  f0 : w.frozen? ⟨X, 0, none⟩ = false
  f1 : w.frozen? ⟨X, 1, none⟩ = false
theorem Box2.below {w w' : World} {X : Nat} {u v : Value} (h : Box2 w X u v) (hB : Below w.heap.size w w') : Box2 w' X u v := by
  have hl := World.block_lt_of_cell? _ _ h.c0
  exact ⟨cell_kept hB _ _ h.c0, cell_kept hB _ _ h.c1, (hB.frozen (p := ⟨X, 0, none⟩) hl).trans h.f0, (hB.frozen (p := ⟨X, 1, none⟩) hl).trans h.f1⟩
theorem Box2.drewN {w : World} {X : Nat} {u v : Value} (h : Box2 w X u v) (q : Nat) : Box2 (w.drewN q) X u v := ⟨h.c0, h.c1, h.f0, h.f1⟩
theorem Box2.drew {w : World} {X : Nat} {u v : Value} (h : Box2 w X u v) : Box2 w.drew X u v := ⟨h.c0, h.c1, h.f0, h.f1⟩
theorem Box2.set {w : World} {X : Nat} {u v : Value} (h : Box2 w X u v) (u' v' : Value) : Box2 ((w.setCell ⟨X, 0, none⟩ u').setCell ⟨X, 1, none⟩ v') X u' v' := by
  have h0 := h.c0
  have h1 := h.c1
  have h2 := h.f0
  have h3 := h.f1
  refine ⟨?_, ?_, ?_, ?_⟩ <;> simp [*, go_sem]
theorem Box2.far {w : World} {X Y : Nat} {u v : Value} (h : Box2 w X u v) (hY : X ≠ Y) (a b : Value) : Box2 ((w.setCell ⟨Y, 0, none⟩ a).setCell ⟨Y, 1, none⟩ b) X u v := by
  have hb (w : World) (o : Nat) (x : Value) : (w.setCell ⟨Y, o, none⟩ x).heap[X]? = w.heap[X]? := Below.heap_setCell _ _ _ _ hY
  have e : ((w.setCell ⟨Y, 0, none⟩ a).setCell ⟨Y, 1, none⟩ b).heap[X]? = w.heap[X]? := (hb _ _ _).trans (hb _ _ _)
  exact ⟨(World.cell?_of_block (w := w) e).trans h.c0, (World.cell?_of_block (w := w) e).trans h.c1, (World.frozen?_of_block (w := w) e).trans h.f0, (World.frozen?_of_block (w := w) e).trans h.f1⟩
theorem box2_new (w : World) (u v : Value) (t : TypeId) : Box2 (w.alloc (.cells #[u, v] t)) w.heap.size u v := by
  refine ⟨?_, ?_, ?_, ?_⟩ <;> simp
theorem own2 {w wr : World} (h : Below w.heap.size w wr) {X : Nat} (hX : w.heap.size ≤ X) (a b : Value) : Below w.heap.size w ((wr.setCell ⟨X, 0, none⟩ a).setCell ⟨X, 1, none⟩ b) :=
  (h.setCell (p := ⟨X, 0, none⟩) hX _).setCell (p := ⟨X, 1, none⟩) hX _
theorem chain {w a b : World} (h1 : Below w.heap.size w a) (h2 : Below a.heap.size a b) : Below w.heap.size w b := h1.trans (h2.mono h1.size)
end Go.Proofs.YtphjbbbnbmafnabGreatDoor

namespace Go.Proofs.YtphjbbbnbmafnabGreatDoor

/-- how many numbers from x up to y are below c -/
def bel (l : List Nat) (x y c : Nat) : Nat := (((l.take y).drop x).filter (fun z => decide (z < c))).length
/-- how many of them are c -/
def eqn (l : List Nat) (x y c : Nat) : Nat := (((l.take y).drop x).filter (fun z => z == c)).length
theorem eqn_cnt {l : List Nat} {x y : Nat} (c : Nat) (h1 : x ≤ y) (h2 : y ≤ l.length) : eqn l x y c + cnt (eqf l c) x = cnt (eqf l c) y := by
  unfold eqn
  rw [cnt_eqf l c y h2, cnt_eqf l c x (by omega)]
  have e : l.take y = l.take x ++ (l.take y).drop x := by
    have := List.take_append_drop x (l.take y)
    rw [List.take_take, Nat.min_eq_left h1] at this
    exact this.symm
  conv => rhs; rw [e, List.filter_append, List.length_append]
  omega
theorem bel_le (l : List Nat) (x y c : Nat) : bel l x y c ≤ l.length := by
  unfold bel
  refine Nat.le_trans (List.length_filter_le _ _) ?_
  simp; omega
/-- the k-th least number is one alone -/
theorem least_uniq {s : List Nat} {k c e : Nat} (h1 : (s.filter (fun z => decide (z < c))).length ≤ k) (h2 : k < (s.filter (fun z => decide (z < c))).length + (s.filter (fun z => z == c)).length)
    (h3 : (s.filter (fun z => decide (z < e))).length ≤ k) (h4 : k < (s.filter (fun z => decide (z < e))).length + (s.filter (fun z => z == e)).length) : c = e := by
  have key : ∀ a b, a < b → (s.filter (fun z => decide (z < a))).length + (s.filter (fun z => z == a)).length ≤ (s.filter (fun z => decide (z < b))).length := by
    intro a b hab
    clear h1 h2 h3 h4
    induction s with
    | nil => simp
    | cons z r ih =>
      simp only [List.filter_cons]
      rcases Nat.lt_trichotomy z a with h | h | h
      · have e1 : decide (z < a) = true := by simpa using h
        have e2 : (z == a) = false := by simp; omega
        have e3 : decide (z < b) = true := by simp; omega
        rw [e1, e2, e3]; simp only [if_true, Bool.false_eq_true, if_false, List.length_cons]; omega
      · have e1 : decide (z < a) = false := by simp; omega
        have e2 : (z == a) = true := by simpa using h
        have e3 : decide (z < b) = true := by simp; omega
        rw [e1, e2, e3]; simp only [if_true, Bool.false_eq_true, if_false, List.length_cons]; omega
      · have e1 : decide (z < a) = false := by simp; omega
        have e2 : (z == a) = false := by simp; omega
        rw [e1, e2]
        simp only [Bool.false_eq_true, if_false]
        cases decide (z < b) <;> simp only [if_true, Bool.false_eq_true, if_false, List.length_cons] <;> omega
  rcases Nat.lt_trichotomy c e with h | h | h
  · have := key c e h; omega
  · exact h
  · have := key e c h; omega
end Go.Proofs.YtphjbbbnbmafnabGreatDoor
