/-
  The program's texts of bits: isBelow, isEdge, isSize, width, addNumber, sourcesText; nothing that was there is written.
  The program's text of where edges are from (sourcesText), over edges that lie in memory by where they are from; nothing that was there is written.
  The program's text of a graph (textOf), over edges in order that lie in memory: the bits of the graph; nothing that was there is written.
  The program's bytes as bits (pages.unpack): the bits of a page's content, behind what a builder holds; nothing below the builder is written.
-/
import Derived.Test.YtphjbbbnbmafnabGreatDoorPWrite
import Derived.Test.YtphjbbbnbmafnabGreatDoorEqE
namespace Go.Proofs.YtphjbbbnbmafnabGreatDoor.G
open Go.RowKit

set_option maxHeartbeats 400000 in
theorem ibelow_any (x b : Int) (w : World) :
    Calls Tryz.prog 24 #[.int .i64 x, .int .i64 b] w fun e w' => e = .returned (.bool (decide (0 ≤ x ∧ x < b))) ∧ w' = w := by
  by_cases h1 : 0 ≤ x
  · by_cases h2 : x < b
    · have HD : Hid _ := decide_eq_true (show 0 ≤ x ∧ x < b from ⟨h1, h2⟩)
      rw [HD.out]
      go_enter Tryz.func24, Tryz.ntmps24
      go_wp2
      go_ret
      exact ⟨rfl, rfl⟩
    · have HD : Hid _ := decide_eq_false (show ¬ (0 ≤ x ∧ x < b) from fun h => h2 h.2)
      rw [HD.out]
      go_enter Tryz.func24, Tryz.ntmps24
      go_wp2
      go_ret
      exact ⟨rfl, rfl⟩
  · have HD : Hid _ := decide_eq_false (show ¬ (0 ≤ x ∧ x < b) from fun h => h1 h.1)
    rw [HD.out]
    go_enter Tryz.func24, Tryz.ntmps24
    go_wp2
    go_ret
    exact ⟨rfl, rfl⟩
theorem bel_bool (x b : Int) (q : Bool) (h : decide (0 ≤ x ∧ x < b) = q) (w : World) : Calls Tryz.prog 24 #[.int .i64 x, .int .i64 b] w fun e w' => e = .returned (.bool q) ∧ w' = w := by
  rw [← h]; exact ibelow_any x b w
theorem edge_dec (f l t n s : Int) : decide (Gm.edgeOk n s (f, l, t)) = (decide (0 ≤ f ∧ f < n) && (decide (0 ≤ l ∧ l < s) && decide (0 ≤ t ∧ t < n))) := by
  unfold Gm.edgeOk
  rw [← Bool.decide_and, ← Bool.decide_and]
  apply decide_eq_decide.2
  simp only
  constructor
  · intro h; exact ⟨⟨h.1, h.2.1⟩, ⟨h.2.2.1, h.2.2.2.1⟩, h.2.2.2.2⟩
  · intro h; exact ⟨h.1.1, h.1.2, h.2.1.1, h.2.1.2, h.2.2⟩
set_option maxHeartbeats 1000000 in
set_option maxRecDepth 100000 in
theorem iedge_any (f l t n s m : Int) (w : World) :
    Calls Tryz.prog 16 #[.agg #[.int .i64 f, .int .i64 l, .int .i64 t], .agg #[.int .i64 n, .int .i64 s, .int .i64 m]] w fun e w' => e = .returned (.bool (decide (Gm.edgeOk n s (f, l, t)))) ∧ Below w.heap.size w w' := by
  obtain ⟨k0, k1, k2, k3, k4, _⟩ := two3 w (.int .i64 f) (.int .i64 l) (.int .i64 t) (.int .i64 n) (.int .i64 s) (.int .i64 m) 41
  rw [edge_dec]
  cases h1 : decide (0 ≤ f ∧ f < n)
  · have H1 : ∀ w, Hid (Calls Tryz.prog 24 _ w _) := bel_bool f n _ h1
    clear h1
    go_enter Tryz.func16, Tryz.ntmps16
    go_wp2_with fail
    refine (Calls.mono (H1 _).out ?_)
    rintro e w1 ⟨rfl, hw⟩
    rw [hw]
    clear hw w1
    go_wp2
    go_ret
    exact ⟨rfl, below2 _ _ _⟩
  · have H1 : ∀ w, Hid (Calls Tryz.prog 24 _ w _) := bel_bool f n _ h1
    clear h1
    cases h2 : decide (0 ≤ l ∧ l < s)
    · have H2 : ∀ w, Hid (Calls Tryz.prog 24 _ w _) := bel_bool l s _ h2
      clear h2
      go_enter Tryz.func16, Tryz.ntmps16
      go_wp2_with fail
      refine (Calls.mono (H1 _).out ?_)
      rintro e w1 ⟨rfl, hw⟩
      rw [hw]
      clear hw w1
      go_wp2_with fail
      refine (Calls.mono (H2 _).out ?_)
      rintro e w1 ⟨rfl, hw⟩
      rw [hw]
      clear hw w1
      go_wp2
      go_ret
      exact ⟨rfl, below2 _ _ _⟩
    · have H2 : ∀ w, Hid (Calls Tryz.prog 24 _ w _) := bel_bool l s _ h2
      have H3 : ∀ w, Hid (Calls Tryz.prog 24 _ w _) := bel_bool t n _ rfl
      clear h2
      generalize decide (0 ≤ t ∧ t < n) = q at H3
      go_enter Tryz.func16, Tryz.ntmps16
      go_wp2_with fail
      refine (Calls.mono (H1 _).out ?_)
      rintro e w1 ⟨rfl, hw⟩
      rw [hw]
      clear hw w1
      go_wp2_with fail
      refine (Calls.mono (H2 _).out ?_)
      rintro e w1 ⟨rfl, hw⟩
      rw [hw]
      clear hw w1
      go_wp2_with fail
      refine (Calls.mono (H3 _).out ?_)
      rintro e w1 ⟨rfl, hw⟩
      rw [hw]
      clear hw w1
      go_wp2
      go_ret
      exact ⟨by simp, below2 _ _ _⟩
set_option maxHeartbeats 1000000 in
set_option maxRecDepth 100000 in
theorem isize_any (n s : Int) (m : Nat) (w : World) :
    Calls Tryz.prog 15 #[.agg #[.int .i64 n, .int .i64 s, .int .i64 (m : Int)]] w fun e w' => e = .returned (.bool (decide (Gm.sizeOk n s m))) ∧ Below w.heap.size w w' := by
  by_cases h1 : 1 ≤ n
  · by_cases h2 : n ≤ 10000
    · by_cases h3 : 1 ≤ s
      · by_cases h4 : s ≤ 26
        · by_cases h5 : m ≤ 20000
          · have HD : Hid _ := decide_eq_true (show Gm.sizeOk n s m from ⟨h1, h2, h3, h4, h5⟩)
            have h5I : (m : Int) ≤ 20000 := by omega
            rw [HD.out]
            go_enter Tryz.func15, Tryz.ntmps15
            go_wp2
            go_ret
            exact ⟨rfl, below1 _ _⟩
          · have HD : Hid _ := decide_eq_false (show ¬ Gm.sizeOk n s m from fun h => h5 h.2.2.2.2)
            have h5I : ¬ (m : Int) ≤ 20000 := by omega
            rw [HD.out]
            go_enter Tryz.func15, Tryz.ntmps15
            go_wp2
            go_ret
            exact ⟨rfl, below1 _ _⟩
        · have HD : Hid _ := decide_eq_false (show ¬ Gm.sizeOk n s m from fun h => h4 h.2.2.2.1)
          rw [HD.out]
          go_enter Tryz.func15, Tryz.ntmps15
          go_wp2
          go_ret
          exact ⟨rfl, below1 _ _⟩
      · have HD : Hid _ := decide_eq_false (show ¬ Gm.sizeOk n s m from fun h => h3 h.2.2.1)
        rw [HD.out]
        go_enter Tryz.func15, Tryz.ntmps15
        go_wp2
        go_ret
        exact ⟨rfl, below1 _ _⟩
    · have HD : Hid _ := decide_eq_false (show ¬ Gm.sizeOk n s m from fun h => h2 h.2.1)
      rw [HD.out]
      go_enter Tryz.func15, Tryz.ntmps15
      go_wp2
      go_ret
      exact ⟨rfl, below1 _ _⟩
  · have HD : Hid _ := decide_eq_false (show ¬ Gm.sizeOk n s m from fun h => h1 h.1)
    rw [HD.out]
    go_enter Tryz.func15, Tryz.ntmps15
    go_wp2
    go_ret
    exact ⟨rfl, below1 _ _⟩
/-! ### numbers -/
theorem bitLenAux_wid : ∀ (f n : Nat), n < 2 ^ f → Lib.bitLenAux f n = wid n
  | 0, n, h => by
    have : n = 0 := by simpa using h
    subst this; rfl
  | f + 1, n, h => by
    unfold Lib.bitLenAux
    by_cases h0 : n = 0
    · subst h0; rfl
    · rw [if_neg h0, bitLenAux_wid f (n / 2) (by rw [Nat.pow_succ] at h; omega), wid_half n h0]; omega
theorem bitLen_wid (n : Nat) (h : n < 18446744073709551616) : Lib.bitLen n = wid n := bitLenAux_wid 64 n h
set_option maxHeartbeats 1000000 in
theorem pwidth_any (k : Nat) (h1 : 1 ≤ k) (h2 : k ≤ 100000) (w : World) :
    Calls Tryz.prog 36 #[.int .i64 (k : Int)] w fun e w' => e = .returned (.int .i64 (wid (k - 1) : Int)) ∧ w' = w := by
  have HL : Hid (Calls Tryz.prog 68 _ w _) := Tryz.bits_Len ((k - 1 : Nat) : Int) w (by omega) (by omega)
  have HE : Hid (wid (k - 1) = Lib.bitLen (((k - 1 : Nat) : Int)).toNat) := (by rw [Int.toNat_natCast, bitLen_wid _ (by omega)] : _ = _)
  have hk : (k : Int) - 1 = ((k - 1 : Nat) : Int) := by omega
  go_enter Tryz.func36, Tryz.ntmps36
  go_wp2_with fail
  refine (Calls.mono HL.out ?_)
  rintro e w1 ⟨rfl, hw⟩
  rw [hw, ← HE.out]
  clear hw w1
  go_wp2
  go_ret
  exact ⟨rfl, rfl⟩
/-- bits as letters in memory -/
def valsT (l : List Bool) : List Value := l.map fun b => Value.int .u8 (if b then 49 else 48)
theorem valsT_len (l : List Bool) : (valsT l).length = l.length := by simp [valsT]
theorem i64_and_nat (a b : Nat) (ha : a < 9223372036854775808) (hb : b < 9223372036854775808) : bits .and .i64 (a : Int) (b : Int) = ((a &&& b : Nat) : Int) := by
  have hx : a &&& b ≤ a := Nat.and_le_left
  show IntKind.i64.wrap ((BitVec.ofInt 64 (a : Int) &&& BitVec.ofInt 64 (b : Int)).toNat : Int) = _
  rw [BitVec.toNat_and]
  have e1 : (BitVec.ofInt 64 (a : Int)).toNat = a := by simp; omega
  have e2 : (BitVec.ofInt 64 (b : Int)).toNat = b := by simp; omega
  rw [e1, e2, IntKind.wrap_i64]
  omega
theorem bit_byte (n a : Nat) (hn : n < 1000000) : (48 + bits BinOp.and IntKind.i64 ((n : Int) / 2 ^ min a 64) 1) % 256 = if n.testBit a then 49 else 48 := by
  have e : ((n : Int) / 2 ^ min a 64) = ((n / 2 ^ min a 64 : Nat) : Int) := by rw [Int.natCast_ediv]; congr 1
  have h1 : n / 2 ^ min a 64 ≤ n := Nat.div_le_self _ _
  have h2 := i64_and_nat (n / 2 ^ min a 64) 1 (by omega) (by decide)
  have h3 : n / 2 ^ min a 64 % 2 = (n.testBit a).toNat := by
    rcases Nat.le_total a 64 with h | h
    · rw [Nat.min_eq_left h, half_bit]
    · rw [Nat.min_eq_right h, half_bit, Nat.testBit_lt_two_pow (by omega), Nat.testBit_lt_two_pow (Nat.lt_of_lt_of_le (by omega : n < 2 ^ 64) (Nat.pow_le_pow_right (by decide) h))]
  rw [Nat.and_one_is_mod, h3] at h2
  rw [e, show bits BinOp.and IntKind.i64 ((n / 2 ^ min a 64 : Nat) : Int) 1 = (((n.testBit a).toNat : Nat) : Int) from h2]
  cases n.testBit a <;> rfl
theorem digs_at : ∀ (k n j : Nat), j < k → (digs k n)[j]? = some (n.testBit (k - 1 - j))
  | 0, _, _, h => absurd h (Nat.not_lt_zero _)
  | k + 1, n, 0, _ => by simp [digs]
  | k + 1, n, j + 1, h => by
    rw [digs, List.getElem?_cons_succ, digs_at k n j (by omega)]
    congr 2; omega
theorem valsT_append (l m : List Bool) : valsT (l ++ m) = valsT l ++ valsT m := by simp [valsT]
set_option maxHeartbeats 1000000 in
set_option maxRecDepth 100000 in
theorem addnum_any (n k B b : Nat) (l : List Bool) (w : World) (hk : k ≤ 100) (hn : n < 1000000) (h : Bu B b (valsT l) w) (hBw : B ≤ w.heap.size) (hl : l.length ≤ 100000000) :
    Calls Tryz.prog 33 #[.pointer (some ⟨b, 0, none⟩), .int .i64 (n : Int), .int .i64 (k : Int)] w fun e w' => e = .returned (.tuple #[]) ∧ Bu B b (valsT (l ++ digs k n)) w' ∧ Below B w w' ∧ Oth b w w' := by
  go_enter Tryz.func33, Tryz.ntmps33
  go_wp2
  go_loopw [6] (fun si wr => ∃ j : Nat, j ≤ k ∧ si = .int .i64 ((k : Int) - 1 - (j : Int)) ∧ Hid (Bu B b (valsT (l ++ (digs k n).take j)) wr ∧ Below B w wr ∧ Oth b w wr)) (fun si _ => (intOf si + 1).toNat)
  case atStart => exact ⟨0, Nat.zero_le _, by go_num, by simpa using h, Below.refl _ _, Lib.OthersKept.refl _ _ _⟩
  case round =>
    obtain ⟨j, hj, rfl, HI⟩ := hrel
    by_cases hlt : j < k
    · obtain ⟨a, ha⟩ : ∃ a : Nat, a + j + 1 = k := ⟨k - 1 - j, by omega⟩
      have hT : (digs k n).take (j + 1) = (digs k n).take j ++ [n.testBit a] := by
        rw [List.take_add_one, digs_at k n j hlt, show k - 1 - j = a by omega]; rfl
      have HT : Hid _ := hT
      have ea : (k : Int) - 1 - (j : Int) = (a : Int) := by omega
      rw [ea]
      have hdl : (l ++ (digs k n).take j).length ≤ 100000100 := by simp; omega
      have HV : Hid _ := bit_byte n a hn
      have HW : Hid (Calls Tryz.prog 67 _ wr _) := wb_k B b (valsT (l ++ (digs k n).take j)) (if n.testBit a then 49 else 48) wr HI.out.1 (by rw [valsT_len]; omega) (Nat.le_trans hBw HI.out.2.1.size)
      clear hT hdl ea
      go_wp2_with fail
      rw [HV.out]
      refine (Calls.mono HW.out ?_)
      rintro e w2 ⟨rfl, hb2, hl2, ho2⟩
      have HI2 : Hid (Bu B b (valsT (l ++ (digs k n).take (j + 1))) w2 ∧ Below B w w2 ∧ Oth b w w2) := (by
        rw [HT.out, ← List.append_assoc, valsT_append]
        exact ⟨hb2, HI.out.2.1.trans hl2, HI.out.2.2.trans ho2⟩ : _ ∧ _)
      clear hb2 hl2 ho2
      go_wp2
      go_roundw
      case rel => exact ⟨j + 1, by omega, by go_num, HI2.out⟩
      case measure => simp [intOf] <;> omega
    · obtain rfl : j = k := by omega
      have hI := HI.out
      rw [List.take_of_length_le (by rw [digs_len]; exact Nat.le_refl _)] at hI
      have HE : Hid _ := hI
      clear hI
      go_wp2
      go_end0
      exact ⟨rfl, HE.out⟩
end Go.Proofs.YtphjbbbnbmafnabGreatDoor.G

namespace Go.Proofs.YtphjbbbnbmafnabGreatDoor.G
open Go.RowKit

theorem valsT_bytes (l : List Bool) : valsT l = Lib.byteCells (l.map fun b => if b then (49 : UInt8) else 48) := by
  unfold valsT Lib.byteCells
  rw [List.map_map]
  refine List.map_congr_left (fun b _ => ?_)
  cases b <;> rfl
theorem valsT_ones (l : List Bool) (j : Nat) : valsT (l ++ List.replicate (j + 1) true) = valsT (l ++ List.replicate j true) ++ [.int .u8 49] := by
  rw [List.replicate_succ', ← List.append_assoc, valsT_append]; rfl
set_option maxHeartbeats 4000000 in
set_option maxRecDepth 100000 in
theorem srctext_any (n : Nat) (l : List E3) (v : Value) (w : World) (he : EdgesAt w v l) (hr : Gm.Rising l) (h0 : Gm.ah l 0 = 0) (hn : n ≤ 100000) (hl : l.length ≤ 100000) :
    Calls Tryz.prog 35 #[.int .i64 (n : Int), v] w fun e w' => e = .returned (.string (txt (srcs l n))) ∧ Below w.heap.size w w' := by
  obtain ⟨a0, cap, rfl, hed⟩ := he
  have HE : Hid _ := hed
  have HR : Hid _ := hr
  have HL : ∀ u, Hid ((srcs l u).length = Gm.ah l u + u) := fun u => srcs_len l h0 u
  have HA : Hid _ := h0
  clear hed hr h0
  go_enter Tryz.func35, Tryz.ntmps35
  go_wp2
  go_loopw [6, 9] (fun sa su wr => ∃ u : Nat, u ≤ n ∧ su = .int .i64 (u : Int) ∧ sa = .int .i64 (Gm.ah l u : Int) ∧ Hid (Bu w.heap.size w.heap.size (valsT (srcs l u)) wr ∧ Below w.heap.size w wr)) (fun _ su _ => n - (intOf su).toNat)
  case atStart => exact ⟨0, Nat.zero_le _, rfl, by rw [HA.out]; rfl, Lib.IsBuilderF.of (Lib.fresh_isBuilder 73 5 w), below1 _ _⟩
  case round =>
    obtain ⟨u, hu, rfl, rfl, HI⟩ := hrel
    by_cases hlt : u < n
    · have hm := Gm.ah_mono l (show u ≤ u + 1 by omega)
      have hle := Gm.ah_le l (u + 1)
      have hsl := (HL u).out
      have HS : Hid (srcs l (u + 1) = srcs l u ++ (List.replicate (Gm.ah l (u + 1) - Gm.ah l u) true ++ [false])) := (rfl : srcs l (u + 1) = _)
      have HAt : Hid (∀ i e, l[i]? = some e → Gm.ah l u ≤ i → (e.1 = (u : Int) ↔ i < Gm.ah l (u + 1))) := (fun i e hie hi => by
        have h1 := Gm.ah_at l u i e HR.out hie
        have h2 := Gm.ah_at l (u + 1) i e HR.out hie
        omega : ∀ i e, l[i]? = some e → Gm.ah l u ≤ i → (e.1 = (u : Int) ↔ i < Gm.ah l (u + 1)))
      generalize ha : Gm.ah l u = a at hm hsl HS HAt
      generalize hb : Gm.ah l (u + 1) = b at hm hle HS HAt
      have HBq : Hid _ := hb
      clear ha hb HL
      go_wp2
      go_loopw [6] (fun sa wq => ∃ j : Nat, j ≤ b - a ∧ sa = .int .i64 ((a + j : Nat) : Int) ∧ Hid (Bu w.heap.size w.heap.size (valsT (srcs l u ++ List.replicate j true)) wq ∧ Below w.heap.size w wq)) (fun sa _ => b - (intOf sa).toNat)
      case atStart => exact ⟨0, Nat.zero_le _, rfl, by rw [show srcs l u ++ List.replicate 0 true = srcs l u by simp]; exact HI.out⟩
      case round =>
        obtain ⟨j, hj, rfl, HJ⟩ := hrel
        by_cases hlt2 : a + j < b
        · obtain ⟨x, hx⟩ : ∃ x, l[a + j]? = some x := ⟨_, List.getElem?_eq_getElem (by omega)⟩
          obtain ⟨g, off, rfl, c0, c1, c2⟩ := HE.out (a + j) x hx
          have hfrom := (HAt.out (a + j) x hx (by omega)).2 hlt2
          have d0 := cell_kept HJ.out.2 _ _ c0
          rw [hfrom] at d0
          have hjl : ((a + j : Nat) : Int) < (l.length : Int) := by omega
          have HW : Hid (Calls Tryz.prog 67 _ wr _) := wb_k w.heap.size w.heap.size _ 49 wr HJ.out.1 (by rw [valsT_len]; simp; omega) HJ.out.2.size
          clear c0 c1 c2 hx hfrom
          go_wp2_with fail
          refine (Calls.mono HW.out ?_)
          rintro e w2 ⟨rfl, hb2, hl2, ho2⟩
          have HJ2 : Hid (Bu w.heap.size w.heap.size (valsT (srcs l u ++ List.replicate (j + 1) true)) w2 ∧ Below w.heap.size w w2) := (by
            rw [valsT_ones]
            exact ⟨hb2, HJ.out.2.trans hl2⟩ : _ ∧ _)
          clear hb2 hl2 ho2
          go_wp2
          go_roundw
          case rel => exact ⟨j + 1, by omega, by go_num, HJ2.out⟩
          case measure => simp [intOf] <;> omega
        · have hjb0 : a + j = b := by omega
          have HJB : Hid (a + j = b) := hjb0
          have HW : Hid (Calls Tryz.prog 67 _ wr _) := wb_k w.heap.size w.heap.size _ 48 wr HJ.out.1 (by rw [valsT_len]; simp; omega) HJ.out.2.size
          have HS2 : Hid (valsT (srcs l (u + 1)) = valsT (srcs l u ++ List.replicate j true) ++ [.int .u8 48]) := (by
            rw [HS.out, ← List.append_assoc, valsT_append _ [false], show b - a = j by omega]; rfl : _ = _)
          clear hjb0
          by_cases hend : a + j < l.length
          · obtain ⟨x, hx⟩ : ∃ x, l[a + j]? = some x := ⟨_, List.getElem?_eq_getElem hend⟩
            obtain ⟨g, off, rfl, c0, c1, c2⟩ := HE.out (a + j) x hx
            have hfrom : ¬ x.1 = (u : Int) := fun e => hlt2 ((HAt.out (a + j) x hx (by omega)).1 e)
            have hfb : (x.1 == (u : Int)) = false := by simpa using hfrom
            have d0 := cell_kept HJ.out.2 _ _ c0
            have hjl : ((a + j : Nat) : Int) < (l.length : Int) := by omega
            obtain ⟨x1, x2, x3⟩ := x
            simp only at d0 hfb hfrom
            clear c0 c1 c2 hx
            go_wp2_with fail
            refine (Calls.mono HW.out ?_)
            rintro e w2 ⟨rfl, hb2, hl2, ho2⟩
            have HJ2 : Hid (Bu w.heap.size w.heap.size (valsT (srcs l (u + 1))) w2 ∧ Below w.heap.size w w2) := (by
              rw [HS2.out]
              exact ⟨hb2, HJ.out.2.trans hl2⟩ : _ ∧ _)
            clear hb2 hl2 ho2
            go_wp2
            go_roundw
            case rel => exact ⟨u + 1, by omega, by go_num, by rw [HBq.out, ← HJB.out]; go_num, HJ2.out⟩
            case measure => simp [intOf] <;> omega
          · have hjl : ¬ ((a + j : Nat) : Int) < (l.length : Int) := by omega
            go_wp2_with fail
            refine (Calls.mono HW.out ?_)
            rintro e w2 ⟨rfl, hb2, hl2, ho2⟩
            have HJ2 : Hid (Bu w.heap.size w.heap.size (valsT (srcs l (u + 1))) w2 ∧ Below w.heap.size w w2) := (by
              rw [HS2.out]
              exact ⟨hb2, HJ.out.2.trans hl2⟩ : _ ∧ _)
            clear hb2 hl2 ho2
            go_wp2
            go_roundw
            case rel => exact ⟨u + 1, by omega, by go_num, by rw [HBq.out, ← HJB.out]; go_num, HJ2.out⟩
            case measure => simp [intOf] <;> omega
    · obtain rfl : u = n := by omega
      have hI := HI.out.1
      rw [valsT_bytes] at hI
      have HSt : Hid (Calls Tryz.prog 32 _ wr _) := Tryz.Builder_String_any_k w.heap.size w.heap.size _ wr hI HI.out.2.size
      clear hI
      go_wp2_with fail
      refine (Calls.mono HSt.out ?_)
      rintro e w3 ⟨rfl, hb3, hl3, ho3⟩
      go_wp2
      go_ret
      exact ⟨rfl, HI.out.2.trans hl3⟩
end Go.Proofs.YtphjbbbnbmafnabGreatDoor.G

namespace Go.Proofs.YtphjbbbnbmafnabGreatDoor.G
open Go.RowKit

theorem strT (l : List Bool) : Lib.strCells (txt l) = valsT l := by rw [valsT_bytes]; rfl
theorem nums_take {k : Nat} {l : List Nat} {i x : Nat} (h : l[i]? = some x) : nums k (l.take (i + 1)) = nums k (l.take i) ++ digs k x := by
  rw [List.take_add_one, h, Option.toList_some, nums_snoc]
theorem nums_take_len (k : Nat) (l : List Nat) (i : Nat) : (nums k (l.take i)).length ≤ k * l.length := by
  rw [nums_len]
  exact Nat.mul_le_mul_left _ (by simp; omega)
theorem labs_at {l : List Gm.E3} {i : Nat} {e : Gm.E3} (h : l[i]? = some e) : (labs l)[i]? = some e.2.1.toNat := by unfold labs; rw [List.getElem?_map, h]; rfl
theorem tos_at {l : List Gm.E3} {i : Nat} {e : Gm.E3} (h : l[i]? = some e) : (tos l)[i]? = some e.2.2.toNat := by unfold tos; rw [List.getElem?_map, h]; rfl
theorem box3 (w : World) (a b c : Value) (t : TypeId) : (w.alloc (.cells #[a, b, c] t)).cell? ⟨w.heap.size, 0, none⟩ = some a ∧ (w.alloc (.cells #[a, b, c] t)).cell? ⟨w.heap.size, 1, none⟩ = some b ∧ (w.alloc (.cells #[a, b, c] t)).cell? ⟨w.heap.size, 2, none⟩ = some c := by
  refine ⟨by simp, by simp, by simp⟩
set_option maxHeartbeats 4000000 in
set_option maxRecDepth 100000 in
theorem textof_any (n s : Nat) (l : List E3) (v : Value) (w : World) (he : EdgesAt w v l) (hst : Gm.Strict l) (hok : ∀ e ∈ l, Gm.edgeOk n s e) (hn : 1 ≤ n) (hn2 : n ≤ 10000) (hs : 1 ≤ s) (hs2 : s ≤ 26) (hl : l.length ≤ 20000) :
    Calls Tryz.prog 18 #[.int .i64 (n : Int), .int .i64 (s : Int), v] w fun e w' => e = .returned (.string (txt (gbits n s l))) ∧ Below w.heap.size w w' := by
  have h0 : Gm.ah l 0 = 0 := Gm.ah_zero l (fun e h => (hok e h).1)
  have hall : Gm.ah l n = l.length := Gm.ah_all l n (fun e h => (hok e h).2.1)
  have HSrc : ∀ W, Below w.heap.size w W → Hid (Calls Tryz.prog 35 #[.int .i64 (n : Int), v] W _) := fun W hW => srctext_any n l v W (he.below hW) (Gm.strict_rising hst) h0 (by omega) (by omega)
  have hsl := srcs_len l h0 n
  rw [hall] at hsl
  have hw1 := wid_le (s - 1) (by omega)
  have hw2 := wid_le (n - 1) (by omega)
  have HOk : Hid _ := hok
  obtain ⟨a0, cap, rfl, hed⟩ := he
  have HE : Hid _ := hed
  have hB0 : Bu w.heap.size w.heap.size (valsT []) (w.alloc (.cells #[.pointer none, .slice none 0 0] 73)) := Lib.IsBuilderF.of (Lib.fresh_isBuilder 73 5 w)
  have HB0 : Hid _ := hB0
  clear hed h0 hall hst hok hB0
  go_enter Tryz.func18, Tryz.ntmps18
  go_wp2_with fail
  refine (addnum_any n 14 _ _ [] _ (by decide) (by omega) HB0.out (by simp) (by simp)).mono ?_
  rintro e w1 ⟨rfl, hb1, hl1, ho1⟩
  have H1 : Hid (Bu w.heap.size w.heap.size (valsT ([] ++ digs 14 n)) w1 ∧ Below w.heap.size w w1) := (⟨hb1, (below1 w _).trans hl1⟩ : _ ∧ _)
  clear hb1 hl1 ho1 HB0
  go_wp2_with fail
  refine (addnum_any s 5 _ _ _ _ (by decide) (by omega) H1.out.1 H1.out.2.size (by simp [digs_len])).mono ?_
  rintro e w2 ⟨rfl, hb2, hl2, ho2⟩
  have H2 : Hid (Bu w.heap.size w.heap.size (valsT ([] ++ digs 14 n ++ digs 5 s)) w2 ∧ Below w.heap.size w w2) := (⟨hb2, H1.out.2.trans hl2⟩ : _ ∧ _)
  clear hb2 hl2 ho2 H1
  go_wp2_with fail
  refine (addnum_any l.length 15 _ _ _ _ (by decide) (by omega) H2.out.1 H2.out.2.size (by simp [digs_len])).mono ?_
  rintro e w3 ⟨rfl, hb3, hl3, ho3⟩
  have H3 : Hid (Bu w.heap.size w.heap.size (valsT (digs 14 n ++ digs 5 s ++ digs 15 l.length)) w3 ∧ Below w.heap.size w w3) := (⟨hb3, H2.out.2.trans hl3⟩ : _ ∧ _)
  clear hb3 hl3 ho3 H2
  go_wp2_with fail
  refine (Calls.mono (HSrc w3 H3.out.2).out ?_)
  rintro e w4 ⟨rfl, hB4⟩
  have HW : Hid (Calls Tryz.prog 34 _ w4 _) := ws_k w.heap.size w.heap.size _ (txt (srcs l n)) w4 (bu_below H3.out.1 hB4) (by rw [valsT_len, txt_size]; simp [digs_len]; omega) (Nat.le_trans H3.out.2.size hB4.size)
  have HB4 : Hid (Below w.heap.size w w4) := chain H3.out.2 hB4
  clear hB4
  go_wp2_with fail
  refine (Calls.mono HW.out ?_)
  rintro e w5 ⟨rfl, hb5, hl5, ho5⟩
  rw [strT, ← valsT_append] at hb5
  have H5 : Hid (Bu w.heap.size w.heap.size (valsT (digs 14 n ++ digs 5 s ++ digs 15 l.length ++ srcs l n)) w5 ∧ Below w.heap.size w w5) := (⟨hb5, HB4.out.trans hl5⟩ : _ ∧ _)
  have hT5 : (digs 14 n ++ digs 5 s ++ digs 15 l.length ++ srcs l n).length ≤ 40000 := by simp [digs_len]; omega
  have HG : Hid (gbits n s l = digs 14 n ++ digs 5 s ++ digs 15 l.length ++ srcs l n ++ nums (wid (s - 1)) (labs l) ++ nums (wid (n - 1)) (tos l)) := (rfl : gbits n s l = _)
  generalize digs 14 n ++ digs 5 s ++ digs 15 l.length ++ srcs l n = T5 at H5 hT5 HG
  clear hb5 hl5 ho5 HB4 HW H3 HSrc hsl
  go_wp2
  go_loopw [25] (fun si wr => ∃ i : Nat, i ≤ l.length ∧ si = .int .i64 (i : Int) ∧ Hid (Bu w.heap.size w.heap.size (valsT (T5 ++ nums (wid (s - 1)) ((labs l).take i))) wr ∧ Below w.heap.size w wr)) (fun si _ => l.length - (intOf si).toNat)
  case atStart => exact ⟨0, Nat.zero_le _, rfl, by rw [show T5 ++ nums (wid (s - 1)) ((labs l).take 0) = T5 by simp [nums]]; exact H5.out⟩
  case round =>
    obtain ⟨i, hi, rfl, HI⟩ := hrel
    by_cases hlt : i < l.length
    · obtain ⟨x, hx⟩ : ∃ x, l[i]? = some x := ⟨_, List.getElem?_eq_getElem hlt⟩
      obtain ⟨g, off, rfl, c0, c1, c2⟩ := HE.out i x hx
      have d0 := cell_kept HI.out.2 _ _ c0
      have d1 := cell_kept HI.out.2 _ _ c1
      have d2 := cell_kept HI.out.2 _ _ c2
      have hxo := HOk.out x (List.mem_of_getElem? hx)
      have HN : Hid _ := nums_take (k := wid (s - 1)) (labs_at hx)
      have hnl := nums_take_len (wid (s - 1)) (labs l) i
      have hll : (labs l).length = l.length := by simp [labs]
      rw [hll] at hnl
      have hmul : wid (s - 1) * l.length ≤ 20 * 20000 := Nat.mul_le_mul hw1 hl
      obtain ⟨x1, x2, x3⟩ := x
      obtain ⟨y, hy⟩ : ∃ y : Nat, x2 = (y : Int) := ⟨x2.toNat, by have := hxo.2.2.1; simp only at this; omega⟩
      subst hy
      have hyl : y < 26 := by have := hxo.2.2.2.1; simp only at this; omega
      simp only [Int.toNat_natCast] at d0 d1 d2 HN
      obtain ⟨bx0, bx1, bx2⟩ := box3 wr (.int .i64 x1) (.int .i64 (y : Int)) (.int .i64 x3) 41
      have hiI : (i : Int) < (l.length : Int) := by omega
      clear c0 c1 c2 hx hxo
      have hrs := HI.out.2.size
      have HWd : ∀ W, Hid (Calls Tryz.prog 36 #[.int .i64 (s : Int)] W _) := fun W => pwidth_any s hs (by omega) W
      have HAd : Hid (Calls Tryz.prog 33 _ (wr.alloc (.cells #[.int .i64 x1, .int .i64 (y : Int), .int .i64 x3] 41)).drew _) := addnum_any y (wid (s - 1)) w.heap.size w.heap.size (T5 ++ nums (wid (s - 1)) ((labs l).take i)) (wr.alloc (.cells #[.int .i64 x1, .int .i64 (y : Int), .int .i64 x3] 41)).drew (by omega) (by omega) (bu_below HI.out.1 (below1 _ _).drew) (by show _ ≤ (wr.alloc _).heap.size; simp; omega) (by simp; omega)
      have HBx : Hid (Below w.heap.size w (wr.alloc (.cells #[.int .i64 x1, .int .i64 (y : Int), .int .i64 x3] 41)).drew) := (HI.out.2.alloc hrs _).drew
      clear hmul hnl hll
      go_wp2
      go_region_with (first
        | (go_at_call 36; refine (Calls.mono (HWd _).out ?_); rintro e w' ⟨rfl, rfl⟩)
        | (go_at_call 33; refine (Calls.mono HAd.out ?_); rintro e w' ⟨rfl, hb6, hl6, ho6⟩))
      all_goals
        have HI2 : Hid (Bu w.heap.size w.heap.size (valsT (T5 ++ nums (wid (s - 1)) ((labs l).take (i + 1)))) w' ∧ Below w.heap.size w w') := (by
          rw [HN.out, ← List.append_assoc]
          exact ⟨hb6, HBx.out.trans hl6⟩ : _ ∧ _)
        clear hb6 hl6 ho6
        go_wp2
        go_roundw
        case rel => exact ⟨i + 1, by omega, by go_num, HI2.out⟩
        case measure => simp [intOf] <;> omega
    · obtain rfl : i = l.length := by omega
      have hI := HI.out
      rw [List.take_of_length_le (by simp [labs])] at hI
      have H6 : Hid _ := hI
      have hll : (labs l).length = l.length := by simp [labs]
      have hmul : wid (s - 1) * l.length ≤ 20 * 20000 := Nat.mul_le_mul hw1 hl
      have hT6 : (T5 ++ nums (wid (s - 1)) (labs l)).length ≤ 500000 := by rw [List.length_append, nums_len, hll]; omega
      clear hI HI H5 hll hmul
      generalize T5 ++ nums (wid (s - 1)) (labs l) = T6 at H6 hT6 HG
      go_wp2
      go_loopw [37] (fun si wr => ∃ i : Nat, i ≤ l.length ∧ si = .int .i64 (i : Int) ∧ Hid (Bu w.heap.size w.heap.size (valsT (T6 ++ nums (wid (n - 1)) ((tos l).take i))) wr ∧ Below w.heap.size w wr)) (fun si _ => l.length - (intOf si).toNat)
      case atStart => exact ⟨0, Nat.zero_le _, rfl, by rw [show T6 ++ nums (wid (n - 1)) ((tos l).take 0) = T6 by simp [nums]]; exact H6.out⟩
      case round =>
        obtain ⟨i, hi, rfl, HI⟩ := hrel
        by_cases hlt : i < l.length
        · obtain ⟨x, hx⟩ : ∃ x, l[i]? = some x := ⟨_, List.getElem?_eq_getElem hlt⟩
          obtain ⟨g, off, rfl, c0, c1, c2⟩ := HE.out i x hx
          have d0 := cell_kept HI.out.2 _ _ c0
          have d1 := cell_kept HI.out.2 _ _ c1
          have d2 := cell_kept HI.out.2 _ _ c2
          have hxo := HOk.out x (List.mem_of_getElem? hx)
          have HN : Hid _ := nums_take (k := wid (n - 1)) (tos_at hx)
          have hnl := nums_take_len (wid (n - 1)) (tos l) i
          have hll : (tos l).length = l.length := by simp [tos]
          rw [hll] at hnl
          have hmul : wid (n - 1) * l.length ≤ 20 * 20000 := Nat.mul_le_mul hw2 hl
          obtain ⟨x1, x2, x3⟩ := x
          obtain ⟨y, hy⟩ : ∃ y : Nat, x3 = (y : Int) := ⟨x3.toNat, by have := hxo.2.2.2.2.1; simp only at this; omega⟩
          subst hy
          have hyl : y < 10000 := by have := hxo.2.2.2.2.2; simp only at this; omega
          simp only [Int.toNat_natCast] at d0 d1 d2 HN
          obtain ⟨bx0, bx1, bx2⟩ := box3 wr (.int .i64 x1) (.int .i64 x2) (.int .i64 (y : Int)) 41
          have hiI : (i : Int) < (l.length : Int) := by omega
          clear c0 c1 c2 hx hxo
          have hrs := HI.out.2.size
          have HWd : ∀ W, Hid (Calls Tryz.prog 36 #[.int .i64 (n : Int)] W _) := fun W => pwidth_any n hn (by omega) W
          have HAd : Hid (Calls Tryz.prog 33 _ (wr.alloc (.cells #[.int .i64 x1, .int .i64 x2, .int .i64 (y : Int)] 41)).drew _) := addnum_any y (wid (n - 1)) w.heap.size w.heap.size (T6 ++ nums (wid (n - 1)) ((tos l).take i)) (wr.alloc (.cells #[.int .i64 x1, .int .i64 x2, .int .i64 (y : Int)] 41)).drew (by omega) (by omega) (bu_below HI.out.1 (below1 _ _).drew) (by show _ ≤ (wr.alloc _).heap.size; simp; omega) (by simp; omega)
          have HBx : Hid (Below w.heap.size w (wr.alloc (.cells #[.int .i64 x1, .int .i64 x2, .int .i64 (y : Int)] 41)).drew) := (HI.out.2.alloc hrs _).drew
          clear hmul hnl hll
          go_wp2
          go_region_with (first
            | (go_at_call 36; refine (Calls.mono (HWd _).out ?_); rintro e w' ⟨rfl, rfl⟩)
            | (go_at_call 33; refine (Calls.mono HAd.out ?_); rintro e w' ⟨rfl, hb6, hl6, ho6⟩))
          all_goals
            have HI2 : Hid (Bu w.heap.size w.heap.size (valsT (T6 ++ nums (wid (n - 1)) ((tos l).take (i + 1)))) w' ∧ Below w.heap.size w w') := (by
              rw [HN.out, ← List.append_assoc]
              exact ⟨hb6, HBx.out.trans hl6⟩ : _ ∧ _)
            clear hb6 hl6 ho6
            go_wp2
            go_roundw
            case rel => exact ⟨i + 1, by omega, by go_num, HI2.out⟩
            case measure => simp [intOf] <;> omega
        · obtain rfl : i = l.length := by omega
          have hI := HI.out
          rw [List.take_of_length_le (by simp [tos]), ← HG.out, valsT_bytes] at hI
          have HSt : Hid (Calls Tryz.prog 32 _ wr _) := Tryz.Builder_String_any_k w.heap.size w.heap.size _ wr hI.1 hI.2.size
          have HBf : Hid _ := hI.2
          clear hI HI
          go_wp2_with fail
          refine (Calls.mono HSt.out ?_)
          rintro e w3 ⟨rfl, hb3, hl3, ho3⟩
          go_wp2
          go_ret
          exact ⟨rfl, HBf.out.trans hl3⟩
end Go.Proofs.YtphjbbbnbmafnabGreatDoor.G

namespace Go.Proofs.YtphjbbbnbmafnabGreatDoor.G
open Go.RowKit

theorem nums_at : ∀ (k : Nat) (l : List Nat) (i x : Nat), 0 < k → l[i / k]? = some x → (nums k l)[i]? = some (x.testBit (k - 1 - i % k))
  | _, [], _, _, _, h => by cases h
  | k, a :: l, i, x, hk, h => by
    have e : nums k (a :: l) = digs k a ++ nums k l := by unfold nums; rw [List.flatMap_cons]
    rw [e]
    by_cases hi : i < k
    · rw [List.getElem?_append_left (by rw [digs_len]; exact hi), digs_at k a i hi]
      rw [Nat.div_eq_of_lt hi] at h
      simp at h; subst h
      rw [Nat.mod_eq_of_lt hi]
    · rw [List.getElem?_append_right (by rw [digs_len]; omega), digs_len]
      have hd : i / k = (i - k) / k + 1 := by
        rw [Nat.div_eq_sub_div hk (by omega)]
      rw [hd] at h
      have ih := nums_at k l (i - k) x hk (by simpa using h)
      rw [ih, Nat.mod_eq_sub_mod (a := i) (by omega)]
theorem u8_and_nat (a b : Nat) (ha : a < 256) (hb : b < 256) : bits .and .u8 (a : Int) (b : Int) = ((a &&& b : Nat) : Int) := by
  have hx : a &&& b ≤ a := Nat.and_le_left
  show IntKind.u8.wrap ((BitVec.ofInt 8 (a : Int) &&& BitVec.ofInt 8 (b : Int)).toNat : Int) = _
  rw [BitVec.toNat_and]
  have e1 : (BitVec.ofInt 8 (a : Int)).toNat = a := by simp; omega
  have e2 : (BitVec.ofInt 8 (b : Int)).toNat = b := by simp; omega
  rw [e1, e2, IntKind.wrap_u8]
  omega
theorem bit_byte8 (x a : Nat) (hx : x < 256) : (48 + bits BinOp.and IntKind.u8 ((x : Int) / 2 ^ a) 1) % 256 = if x.testBit a then 49 else 48 := by
  have e : ((x : Int) / 2 ^ a) = ((x / 2 ^ a : Nat) : Int) := by rw [Int.natCast_ediv]; congr 1
  have h1 : x / 2 ^ a ≤ x := Nat.div_le_self _ _
  have h2 := u8_and_nat (x / 2 ^ a) 1 (by omega) (by decide)
  rw [Nat.and_one_is_mod, half_bit] at h2
  rw [e, show bits BinOp.and IntKind.u8 ((x / 2 ^ a : Nat) : Int) 1 = (((x.testBit a).toNat : Nat) : Int) from h2]
  cases x.testBit a <;> rfl
set_option maxHeartbeats 4000000 in
set_option maxRecDepth 100000 in
theorem unpack_any (l : List Nat) (hl : l.length = 252) (hb : ∀ x ∈ l, x < 256) (B b : Nat) (acc : List Bool) (w : World) (h : Bu B b (valsT acc) w) (hBw : B ≤ w.heap.size) (ha : acc.length ≤ 100000000) :
    Calls Tryz.prog 41 #[.pointer (some ⟨b, 0, none⟩), .agg (valsB l).toArray] w fun e w' => e = .returned (.tuple #[]) ∧ Bu B b (valsT (acc ++ nums 8 l)) w' ∧ Below B w w' := by
  have hbl := bu_blk h
  have HB0 : Hid (Bu B b (valsT acc) (w.alloc (.cells (valsB l).toArray 78))) := bu_below h (below1 _ _)
  have HH0 : Hid ((w.alloc (.cells (valsB l).toArray 78)).heap[w.heap.size]? = some (.cells (valsB l).toArray 78 (0, 0))) := heap_alloc_new _ _
  have HL0 : Hid (Below B w (w.alloc (.cells (valsB l).toArray 78))) := (Below.refl _ _).alloc hBw _
  have HLb : Hid _ := hb
  have hnl : (nums 8 l).length = 2016 := by rw [nums_len, hl]
  clear hb h
  go_enter Tryz.func41, Tryz.ntmps41
  go_wp2
  go_loopw [5] (fun si wr => ∃ i : Nat, i ≤ 2016 ∧ si = .int .i64 (i : Int) ∧ Hid (Bu B b (valsT (acc ++ (nums 8 l).take i)) wr ∧ wr.heap[w.heap.size]? = some (.cells (valsB l).toArray 78 (0, 0)) ∧ Below B w wr)) (fun si _ => 2016 - (intOf si).toNat)
  case atStart => exact ⟨0, Nat.zero_le _, rfl, by rw [List.take_zero, List.append_nil]; exact HB0.out, HH0.out, HL0.out⟩
  case round =>
    obtain ⟨i, hi, rfl, HI⟩ := hrel
    by_cases hlt : i < 2016
    · obtain ⟨x, hx⟩ : ∃ x, l[i / 8]? = some x := ⟨_, List.getElem?_eq_getElem (by omega)⟩
      have hxb := HLb.out x (List.mem_of_getElem? hx)
      have hcell : wr.cell? ⟨w.heap.size, i / 8, none⟩ = some (.int .u8 (x : Int)) := by
        rw [cell_of_row wr _ _ _ _ _ HI.out.2.1]
        simp [valsB, hx]
      have HT : Hid ((nums 8 l).take (i + 1) = (nums 8 l).take i ++ [x.testBit (7 - i % 8)]) := (by rw [List.take_add_one, nums_at 8 l i x (by decide) hx]; rfl : _ = _)
      have h8 : (i : Int) / 8 < 252 := by omega
      have hW := wb_k B b (valsT (acc ++ (nums 8 l).take i)) (if x.testBit (7 - i % 8) then 49 else 48) wr HI.out.1 (by rw [valsT_len, List.length_append, List.length_take]; omega) (Nat.le_trans hBw HI.out.2.2.size)
      have HW : Hid (Calls Tryz.prog 67 _ wr _) := hW
      clear hx hW
      have HV : Hid _ := bit_byte8 x (7 - i % 8) hxb
      have hbC : b ≠ w.heap.size := by omega
      go_wp2_with fail
      rw [HV.out]
      refine (Calls.mono HW.out ?_)
      rintro e w2 ⟨rfl, hb2, hl2, ho2⟩
      have HI2 : Hid (Bu B b (valsT (acc ++ (nums 8 l).take (i + 1))) w2 ∧ w2.heap[w.heap.size]? = some (.cells (valsB l).toArray 78 (0, 0)) ∧ Below B w w2) := (by
        rw [HT.out, ← List.append_assoc, valsT_append]
        exact ⟨hb2, ho2 _ _ HI.out.2.1 (fun e => hbC (Option.some.inj e).symm) (by intro c fz e; cases e), HI.out.2.2.trans hl2⟩ : _ ∧ _)
      clear hb2 hl2 ho2
      go_wp2
      go_roundw
      case rel => exact ⟨i + 1, by omega, by go_num, HI2.out⟩
      case measure => simp [intOf] <;> omega
    · obtain rfl : i = 2016 := by omega
      have hI := HI.out
      rw [List.take_of_length_le (by omega)] at hI
      have HE : Hid _ := hI
      clear hI
      go_wp2
      go_end0
      exact ⟨rfl, HE.out.1, HE.out.2.2⟩
end Go.Proofs.YtphjbbbnbmafnabGreatDoor.G
