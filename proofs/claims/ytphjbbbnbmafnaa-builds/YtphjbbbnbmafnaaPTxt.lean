/-
  The program's texts of bits: isBelow, isEdge, isSize, width, addNumber, sourcesText; nothing that was there is written.
-/
import Derived.Test.YtphjbbbnbmafnaaPWrite
import Derived.Test.YtphjbbbnbmafnaaEdges
namespace Go.Proofs.Ytphjbbbnbmafnaa.G
open Go.RowKit

set_option maxHeartbeats 400000 in
theorem ibelow_any (x b : Int) (w : World) :
    Calls Try.prog 90 #[.int .i64 x, .int .i64 b] w fun e w' => e = .returned (.bool (decide (0 ≤ x ∧ x < b))) ∧ w' = w := by
  by_cases h1 : 0 ≤ x
  · by_cases h2 : x < b
    · have HD : Hid _ := decide_eq_true (show 0 ≤ x ∧ x < b from ⟨h1, h2⟩)
      rw [HD.out]
      go_enter Try.func90, Try.ntmps90
      go_wp2
      go_ret
      exact ⟨rfl, rfl⟩
    · have HD : Hid _ := decide_eq_false (show ¬ (0 ≤ x ∧ x < b) from fun h => h2 h.2)
      rw [HD.out]
      go_enter Try.func90, Try.ntmps90
      go_wp2
      go_ret
      exact ⟨rfl, rfl⟩
  · have HD : Hid _ := decide_eq_false (show ¬ (0 ≤ x ∧ x < b) from fun h => h1 h.1)
    rw [HD.out]
    go_enter Try.func90, Try.ntmps90
    go_wp2
    go_ret
    exact ⟨rfl, rfl⟩
theorem bel_bool (x b : Int) (q : Bool) (h : decide (0 ≤ x ∧ x < b) = q) (w : World) : Calls Try.prog 90 #[.int .i64 x, .int .i64 b] w fun e w' => e = .returned (.bool q) ∧ w' = w := by
  rw [← h]; exact ibelow_any x b w
theorem edge_dec (f l t n s : Int) : decide (Gm.edgeOk n s (f, l, t)) = (decide (0 ≤ f ∧ f < n) && (decide (0 ≤ l ∧ l < s) && decide (0 ≤ t ∧ t < n))) := by
  unfold Gm.edgeOk
  rw [← Bool.decide_and, ← Bool.decide_and]
  apply decide_eq_decide.2
  simp only
  constructor
  · intro h; exact ⟨⟨h.1, h.2.1⟩, ⟨h.2.2.1, h.2.2.2.1⟩, h.2.2.2.2⟩
  · intro h; exact ⟨h.1.1, h.1.2, h.2.1.1, h.2.1.2, h.2.2⟩
set_option maxHeartbeats 1000000 in
set_option maxRecDepth 100000 in
theorem iedge_any (f l t n s m : Int) (w : World) :
    Calls Try.prog 70 #[.agg #[.int .i64 f, .int .i64 l, .int .i64 t], .agg #[.int .i64 n, .int .i64 s, .int .i64 m]] w fun e w' => e = .returned (.bool (decide (Gm.edgeOk n s (f, l, t)))) ∧ Below w.heap.size w w' := by
  obtain ⟨k0, k1, k2, k3, k4, _⟩ := two3 w (.int .i64 f) (.int .i64 l) (.int .i64 t) (.int .i64 n) (.int .i64 s) (.int .i64 m) 112
  rw [edge_dec]
  cases h1 : decide (0 ≤ f ∧ f < n)
  · have H1 : ∀ w, Hid (Calls Try.prog 90 _ w _) := bel_bool f n _ h1
    clear h1
    go_enter Try.func70, Try.ntmps70
    go_wp2_with fail
    refine (Calls.mono (H1 _).out ?_)
    rintro e w1 ⟨rfl, hw⟩
    rw [hw]
    clear hw w1
    go_wp2
    go_ret
    exact ⟨rfl, below2 _ _ _⟩
  · have H1 : ∀ w, Hid (Calls Try.prog 90 _ w _) := bel_bool f n _ h1
    clear h1
    cases h2 : decide (0 ≤ l ∧ l < s)
    · have H2 : ∀ w, Hid (Calls Try.prog 90 _ w _) := bel_bool l s _ h2
      clear h2
      go_enter Try.func70, Try.ntmps70
      go_wp2_with fail
      refine (Calls.mono (H1 _).out ?_)
      rintro e w1 ⟨rfl, hw⟩
      rw [hw]
      clear hw w1
      go_wp2_with fail
      refine (Calls.mono (H2 _).out ?_)
      rintro e w1 ⟨rfl, hw⟩
      rw [hw]
      clear hw w1
      go_wp2
      go_ret
      exact ⟨rfl, below2 _ _ _⟩
    · have H2 : ∀ w, Hid (Calls Try.prog 90 _ w _) := bel_bool l s _ h2
      have H3 : ∀ w, Hid (Calls Try.prog 90 _ w _) := bel_bool t n _ rfl
      clear h2
      generalize decide (0 ≤ t ∧ t < n) = q at H3
      go_enter Try.func70, Try.ntmps70
      go_wp2_with fail
      refine (Calls.mono (H1 _).out ?_)
      rintro e w1 ⟨rfl, hw⟩
      rw [hw]
      clear hw w1
      go_wp2_with fail
      refine (Calls.mono (H2 _).out ?_)
      rintro e w1 ⟨rfl, hw⟩
      rw [hw]
      clear hw w1
      go_wp2_with fail
      refine (Calls.mono (H3 _).out ?_)
      rintro e w1 ⟨rfl, hw⟩
      rw [hw]
      clear hw w1
      go_wp2
      go_ret
      exact ⟨by simp, below2 _ _ _⟩
set_option maxHeartbeats 1000000 in
set_option maxRecDepth 100000 in
theorem isize_any (n s : Int) (m : Nat) (w : World) :
    Calls Try.prog 69 #[.agg #[.int .i64 n, .int .i64 s, .int .i64 (m : Int)]] w fun e w' => e = .returned (.bool (decide (Gm.sizeOk n s m))) ∧ Below w.heap.size w w' := by
  by_cases h1 : 1 ≤ n
  · by_cases h2 : n ≤ 10000
    · by_cases h3 : 1 ≤ s
      · by_cases h4 : s ≤ 26
        · by_cases h5 : m ≤ 20000
          · have HD : Hid _ := decide_eq_true (show Gm.sizeOk n s m from ⟨h1, h2, h3, h4, h5⟩)
            have h5I : (m : Int) ≤ 20000 := by omega
            rw [HD.out]
            go_enter Try.func69, Try.ntmps69
            go_wp2
            go_ret
            exact ⟨rfl, below1 _ _⟩
          · have HD : Hid _ := decide_eq_false (show ¬ Gm.sizeOk n s m from fun h => h5 h.2.2.2.2)
            have h5I : ¬ (m : Int) ≤ 20000 := by omega
            rw [HD.out]
            go_enter Try.func69, Try.ntmps69
            go_wp2
            go_ret
            exact ⟨rfl, below1 _ _⟩
        · have HD : Hid _ := decide_eq_false (show ¬ Gm.sizeOk n s m from fun h => h4 h.2.2.2.1)
          rw [HD.out]
          go_enter Try.func69, Try.ntmps69
          go_wp2
          go_ret
          exact ⟨rfl, below1 _ _⟩
      · have HD : Hid _ := decide_eq_false (show ¬ Gm.sizeOk n s m from fun h => h3 h.2.2.1)
        rw [HD.out]
        go_enter Try.func69, Try.ntmps69
        go_wp2
        go_ret
        exact ⟨rfl, below1 _ _⟩
    · have HD : Hid _ := decide_eq_false (show ¬ Gm.sizeOk n s m from fun h => h2 h.2.1)
      rw [HD.out]
      go_enter Try.func69, Try.ntmps69
      go_wp2
      go_ret
      exact ⟨rfl, below1 _ _⟩
  · have HD : Hid _ := decide_eq_false (show ¬ Gm.sizeOk n s m from fun h => h1 h.1)
    rw [HD.out]
    go_enter Try.func69, Try.ntmps69
    go_wp2
    go_ret
    exact ⟨rfl, below1 _ _⟩
/-! ### numbers -/
theorem bitLenAux_wid : ∀ (f n : Nat), n < 2 ^ f → Lib.bitLenAux f n = wid n
  | 0, n, h => by
    have : n = 0 := by simpa using h
    subst this; rfl
  | f + 1, n, h => by
    unfold Lib.bitLenAux
    by_cases h0 : n = 0
    · subst h0; rfl
    · rw [if_neg h0, bitLenAux_wid f (n / 2) (by rw [Nat.pow_succ] at h; omega), wid_half n h0]; omega
theorem bitLen_wid (n : Nat) (h : n < 18446744073709551616) : Lib.bitLen n = wid n := bitLenAux_wid 64 n h
set_option maxHeartbeats 1000000 in
theorem pwidth_any (k : Nat) (h1 : 1 ≤ k) (h2 : k ≤ 100000) (w : World) :
    Calls Try.prog 98 #[.int .i64 (k : Int)] w fun e w' => e = .returned (.int .i64 (wid (k - 1) : Int)) ∧ w' = w := by
  have HL : Hid (Calls Try.prog 120 _ w _) := Try.bits_Len ((k - 1 : Nat) : Int) w (by omega) (by omega)
  have HE : Hid (wid (k - 1) = Lib.bitLen (((k - 1 : Nat) : Int)).toNat) := (by rw [Int.toNat_natCast, bitLen_wid _ (by omega)] : _ = _)
  have hk : (k : Int) - 1 = ((k - 1 : Nat) : Int) := by omega
  go_enter Try.func98, Try.ntmps98
  go_wp2_with fail
  refine (Calls.mono HL.out ?_)
  rintro e w1 ⟨rfl, hw⟩
  rw [hw, ← HE.out]
  clear hw w1
  go_wp2
  go_ret
  exact ⟨rfl, rfl⟩
/-- bits as letters in memory -/
def valsT (l : List Bool) : List Value := l.map fun b => Value.int .u8 (if b then 49 else 48)
theorem valsT_len (l : List Bool) : (valsT l).length = l.length := by simp [valsT]
theorem i64_and_nat (a b : Nat) (ha : a < 9223372036854775808) (hb : b < 9223372036854775808) : bits .and .i64 (a : Int) (b : Int) = ((a &&& b : Nat) : Int) := by
  have hx : a &&& b ≤ a := Nat.and_le_left
  show IntKind.i64.wrap ((BitVec.ofInt 64 (a : Int) &&& BitVec.ofInt 64 (b : Int)).toNat : Int) = _
  rw [BitVec.toNat_and]
  have e1 : (BitVec.ofInt 64 (a : Int)).toNat = a := by simp; omega
  have e2 : (BitVec.ofInt 64 (b : Int)).toNat = b := by simp; omega
  rw [e1, e2, IntKind.wrap_i64]
  omega
theorem bit_byte (n a : Nat) (hn : n < 1000000) : (48 + bits BinOp.and IntKind.i64 ((n : Int) / 2 ^ min a 64) 1) % 256 = if n.testBit a then 49 else 48 := by
  have e : ((n : Int) / 2 ^ min a 64) = ((n / 2 ^ min a 64 : Nat) : Int) := by rw [Int.natCast_ediv]; congr 1
  have h1 : n / 2 ^ min a 64 ≤ n := Nat.div_le_self _ _
  have h2 := i64_and_nat (n / 2 ^ min a 64) 1 (by omega) (by decide)
  have h3 : n / 2 ^ min a 64 % 2 = (n.testBit a).toNat := by
    rcases Nat.le_total a 64 with h | h
    · rw [Nat.min_eq_left h, half_bit]
    · rw [Nat.min_eq_right h, half_bit, Nat.testBit_lt_two_pow (by omega), Nat.testBit_lt_two_pow (Nat.lt_of_lt_of_le (by omega : n < 2 ^ 64) (Nat.pow_le_pow_right (by decide) h))]
  rw [Nat.and_one_is_mod, h3] at h2
  rw [e, show bits BinOp.and IntKind.i64 ((n / 2 ^ min a 64 : Nat) : Int) 1 = (((n.testBit a).toNat : Nat) : Int) from h2]
  cases n.testBit a <;> rfl
theorem digs_at : ∀ (k n j : Nat), j < k → (digs k n)[j]? = some (n.testBit (k - 1 - j))
  | 0, _, _, h => absurd h (Nat.not_lt_zero _)
  | k + 1, n, 0, _ => by simp [digs]
  | k + 1, n, j + 1, h => by
    rw [digs, List.getElem?_cons_succ, digs_at k n j (by omega)]
    congr 2; omega
theorem valsT_append (l m : List Bool) : valsT (l ++ m) = valsT l ++ valsT m := by simp [valsT]
set_option maxHeartbeats 1000000 in
set_option maxRecDepth 100000 in
theorem addnum_any (n k B b : Nat) (l : List Bool) (w : World) (hk : k ≤ 100) (hn : n < 1000000) (h : Bu B b (valsT l) w) (hBw : B ≤ w.heap.size) (hl : l.length ≤ 100000000) :
    Calls Try.prog 95 #[.pointer (some ⟨b, 0, none⟩), .int .i64 (n : Int), .int .i64 (k : Int)] w fun e w' => e = .returned (.tuple #[]) ∧ Bu B b (valsT (l ++ digs k n)) w' ∧ Below B w w' ∧ Oth b w w' := by
  go_enter Try.func95, Try.ntmps95
  go_wp2
  go_loopw [6] (fun si wr => ∃ j : Nat, j ≤ k ∧ si = .int .i64 ((k : Int) - 1 - (j : Int)) ∧ Hid (Bu B b (valsT (l ++ (digs k n).take j)) wr ∧ Below B w wr ∧ Oth b w wr)) (fun si _ => (intOf si + 1).toNat)
  case atStart => exact ⟨0, Nat.zero_le _, by go_num, by simpa using h, Below.refl _ _, Lib.OthersKept.refl _ _ _⟩
  case round =>
    obtain ⟨j, hj, rfl, HI⟩ := hrel
    by_cases hlt : j < k
    · obtain ⟨a, ha⟩ : ∃ a : Nat, a + j + 1 = k := ⟨k - 1 - j, by omega⟩
      have hT : (digs k n).take (j + 1) = (digs k n).take j ++ [n.testBit a] := by
        rw [List.take_add_one, digs_at k n j hlt, show k - 1 - j = a by omega]; rfl
      have HT : Hid _ := hT
      have ea : (k : Int) - 1 - (j : Int) = (a : Int) := by omega
      rw [ea]
      have hdl : (l ++ (digs k n).take j).length ≤ 100000100 := by simp; omega
      have HV : Hid _ := bit_byte n a hn
      have HW : Hid (Calls Try.prog 119 _ wr _) := wb_k B b (valsT (l ++ (digs k n).take j)) (if n.testBit a then 49 else 48) wr HI.out.1 (by rw [valsT_len]; omega) (Nat.le_trans hBw HI.out.2.1.size)
      clear hT hdl ea
      go_wp2_with fail
      rw [HV.out]
      refine (Calls.mono HW.out ?_)
      rintro e w2 ⟨rfl, hb2, hl2, ho2⟩
      have HI2 : Hid (Bu B b (valsT (l ++ (digs k n).take (j + 1))) w2 ∧ Below B w w2 ∧ Oth b w w2) := (by
        rw [HT.out, ← List.append_assoc, valsT_append]
        exact ⟨hb2, HI.out.2.1.trans hl2, HI.out.2.2.trans ho2⟩ : _ ∧ _)
      clear hb2 hl2 ho2
      go_wp2
      go_roundw
      case rel => exact ⟨j + 1, by omega, by go_num, HI2.out⟩
      case measure => simp [intOf] <;> omega
    · obtain rfl : j = k := by omega
      have hI := HI.out
      rw [List.take_of_length_le (by rw [digs_len]; exact Nat.le_refl _)] at hI
      have HE : Hid _ := hI
      clear hI
      go_wp2
      go_end0
      exact ⟨rfl, HE.out⟩
end Go.Proofs.Ytphjbbbnbmafnaa.G
