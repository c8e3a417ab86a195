/-
  The questions to a sequence of numbers of 8 bits that lies in memory as NewSeq makes it: Len, At, Rank, Select, Below, Least answer what the document says of its list, or ErrRange; nothing that was there is written. The sequence's reading is the one condition.
  Select of a sequence of numbers of 8 bits that lies in memory as NewSeq makes it: where a number is for the k-th time, or ErrRange; nothing that was there is written. The sequence's reading is the one condition.
  Below and Least of a sequence of numbers of 8 bits that lies in memory as NewSeq makes it: how many numbers of a span are below one; the k-th least number of a span; or ErrRange; nothing that was there is written. The sequence's reading is the one condition.
  Least of a sequence of numbers of 8 bits that lies in memory as NewSeq makes it, where there is a k-th number in the span: the number of which at most k are below it, and more than k are below it or the same; nothing that was there is written. The sequence's reading is the one condition.
  A list of numbers that lies in memory as a slice of Go, and the words of bits that are made of one; what stays of it where memory is new. No condition.
-/
import Derived.Test.YtphjbbbnbmafnabGreatDoorLeast16
import Derived.Test.YtphjbbbnbmafnabGreatDoorGBits
namespace Go.Proofs.YtphjbbbnbmafnabGreatDoor.S8
open Go.RowKit Go.Proofs.YtphjbbbnbmafnabGreatDoor

theorem and_bit (c d : Nat) (hc : c < 2 ^ 8) (hd : d < 8) : (bits .and .u8 (c : Int) (bitv 8 d) != 0) = c.testBit (8 - 1 - d) := by
  unfold bitv
  rw [u8_and_nat c _ hc (Nat.pow_lt_pow_right (by decide) (show 8 - 1 - d < 8 by omega))]
  exact bit_ne c _
set_option maxHeartbeats 400000 in
theorem bitAt_any {w : World} {b g : Nat} {l : List Nat} (hs : SeqAt 8 w b g l) (d : Nat) (hd : d < 8) :
    Calls Tryz.prog 76 #[.pointer (some ⟨b, 0, none⟩), .int .i64 (d : Int)] w fun e w' => e = .returned (.int .u8 (bitv 8 d)) ∧ w' = w := by
  have h1 := hs.levels
  go_enter Tryz.func76, Tryz.ntmps76
  go_wp2
  go_ret
  refine ⟨ret1_int ?_, rfl⟩
  have hp : 2 ^ (8 - 1 - d) < 2 ^ 8 := Nat.pow_lt_pow_right (by decide) (by omega)
  unfold bitv
  rw [← two_pow_int]
  try rw [IntKind.wrap_u8]
  simp only [Nat.reducePow, Nat.reduceSub] at hp ⊢
  generalize 2 ^ _ = m at *
  omega
theorem led_next {l : List Nat} {c d t : Nat} (o : Bool) (ho : o = c.testBit (8 - 1 - d)) : down (bitf (lev 8 l d) (8 - 1 - d)) l.length o (led 8 l c d t) = led 8 l c (d + 1) t := by
  rw [ho]; rfl
theorem box_next {w : World} {X : Nat} {l : List Nat} {c d x y : Nat} {o : Bool} (ho : o = c.testBit (8 - 1 - d))
    (h : Box2 w X (.int .i64 (down (bitf (lev 8 l d) (8 - 1 - d)) l.length o (led 8 l c d x) : Int)) (.int .i64 (down (bitf (lev 8 l d) (8 - 1 - d)) l.length o (led 8 l c d y) : Int))) :
    Box2 w X (.int .i64 (led 8 l c (d + 1) x : Int)) (.int .i64 (led 8 l c (d + 1) y : Int)) := by
  rw [led_next o ho, led_next o ho] at h; exact h
set_option maxHeartbeats 2000000 in
/-- placesOf: where the numbers of a span that are c lie below the last level -/
theorem places_any {w : World} {b g : Nat} {l : List Nat} (hs : SeqAt 8 w b g l) (c : Nat) (hc : c < 2 ^ 8) (x y : Nat) (hxy : x ≤ y) (hy : y ≤ l.length) :
    Calls Tryz.prog 151 #[.pointer (some ⟨b, 0, none⟩), .int .u8 (c : Int), .agg #[.int .i64 (x : Int), .int .i64 (y : Int)]] w fun e w' => e = .returned (.agg #[.int .i64 (led 8 l c 8 x : Int), .int .i64 (led 8 l c 8 y : Int)]) ∧ Below w.heap.size w w' := by
  have hB := two_below w (.cells #[.int .i64 (x : Int), .int .i64 (y : Int)] 133) (.cells #[.int .i64 0, .int .i64 0] 133)
  have hX : Box2 ((w.alloc (.cells #[.int .i64 (x : Int), .int .i64 (y : Int)] 133)).alloc (.cells #[.int .i64 0, .int .i64 0] 133)) w.heap.size (.int .i64 (x : Int)) (.int .i64 (y : Int)) := (box2_new w _ _ _).below ((Below.refl _ _).alloc (Nat.le_refl _) _)
  have hR : Box2 ((w.alloc (.cells #[.int .i64 (x : Int), .int .i64 (y : Int)] 133)).alloc (.cells #[.int .i64 0, .int .i64 0] 133)) (w.heap.size + 1) (.int .i64 0) (.int .i64 0) := by
    have := box2_new (w.alloc (.cells #[.int .i64 (x : Int), .int .i64 (y : Int)] 133)) (.int .i64 0) (.int .i64 0) 133
    simpa using this
  have h1 := (hs.below hB).levels
  have HS : Hid _ := hs
  clear hs
  go_enter Tryz.func151, Tryz.ntmps151
  go_wp2
  go_loopw [14] (fun cc wr => ∃ d : Nat, d ≤ 8 ∧ cc = .int .i64 d ∧ Box2 wr w.heap.size (.int .i64 (led 8 l c d x : Int)) (.int .i64 (led 8 l c d y : Int)) ∧ Box2 wr (w.heap.size + 1) (.int .i64 0) (.int .i64 0) ∧ Below w.heap.size w wr) (fun cc _ => 8 - (intOf cc).toNat)
  case atStart => exact ⟨0, Nat.zero_le _, rfl, hX, hR, hB⟩
  case round =>
    clear hX hR hB h1
    obtain ⟨d, hd, rfl, hX, hR, hbel⟩ := hrel
    by_cases hlt : d < 8
    · have hs1 := HS.out.below hbel
      obtain ⟨bb, bw, ba, W, hcell, hbits⟩ := hs1.level d hlt
      have hll := led_le c hc hs1.lt hxy hy d (by omega)
      have HN := and_bit c d hc hlt
      have hdI : (d : Int) < 8 := by omega
      have hbn := hbits.hn
      have k0 := hX.c0
      have k1 := hX.c1
      have HX : Hid _ := hX
      have HR : Hid _ := hR
      have HBe : Hid _ := hbel
      have HS1 : Hid _ := hs1
      have HB1 : Hid _ := hbits
      have HA : Hid _ := HN
      clear hX hR hbel hs1 hbits HN
      go_wp2
      go_region_with (first
        | (go_at_call 76; refine (bitAt_any (l := l) (g := g) ?_ d hlt).mono ?_; exact (HS1.out.kept (fun _ _ h => h)); rintro e w' ⟨rfl, rfl⟩)
        | (go_at_call 141; refine (narrow_any (bw := bw) (ba := ba) (W := W) (f := bitf (lev 8 l d) (8 - 1 - d)) (n := l.length) ?_ _ (led 8 l c d x) (led 8 l c d y) ?_ ?_ _ _ rfl rfl).mono ?_; exact (HB1.out.kept (fun _ _ h => h)); omega; omega; rintro e w' ⟨rfl, hB⟩; have hX2 := (HX.out.drew).below hB; have f0 := hX2.f0; have f1 := hX2.f1; have g0 := hX2.c0; have g1 := hX2.c1))
      all_goals
        go_wp2
        go_roundw
        case rel => exact ⟨d + 1, by omega, by go_num, box_next HA.out (hX2.set _ _), ((HR.out.drew).below hB).far (by omega) _ _, own2 (chain (HBe.out.drew) hB) (Nat.le_refl _) _ _⟩
        case measure => simp [intOf]; omega
    · obtain rfl : d = 8 := by omega
      have k0 := hX.c0
      have k1 := hX.c1
      have r0 := hR.c0
      have r1 := hR.c1
      have rf0 := hR.f0
      have rf1 := hR.f1
      go_wp2
      refine bodyPost_ret (v := .agg #[.int .i64 (led 8 l c 8 x : Int), .int .i64 (led 8 l c 8 y : Int)]) (by simp [results, Tryz.results151, go_sem, *]) rfl ?_
      exact ⟨rfl, own2 hbel (by omega) _ _⟩

set_option maxHeartbeats 400000 in
theorem len_any {w : World} {b g : Nat} {l : List Nat} (hs : SeqAt 8 w b g l) :
    Calls Tryz.prog 150 #[.pointer (some ⟨b, 0, none⟩)] w fun e w' => e = .returned (.int .i64 (l.length : Int)) ∧ w' = w := by
  have h0 := hs.len
  go_enter Tryz.func150, Tryz.ntmps150
  go_wp2
  go_ret
  exact ⟨rfl, rfl⟩
set_option maxHeartbeats 400000 in
theorem rank_no {w : World} {b g : Nat} {l : List Nat} (hs : SeqAt 8 w b g l) (c : Int) (i : Int) (h : i < 0 ∨ (l.length : Int) < i) :
    Calls Tryz.prog 136 #[.pointer (some ⟨b, 0, none⟩), .int .u8 c, .int .i64 i] w fun e w' => e = .returned (.tuple #[.int .i64 0, .int .i64 1]) ∧ Below w.heap.size w w' := by
  have h0 := hs.len
  rcases h with h | h
  · go_enter Tryz.func136, Tryz.ntmps136
    go_wp2
    go_ret2
    exact ⟨rfl, Below.refl _ _⟩
  · have h1 : ¬ i < 0 := by omega
    go_enter Tryz.func136, Tryz.ntmps136
    go_wp2
    go_ret2
    exact ⟨rfl, Below.refl _ _⟩
set_option maxHeartbeats 400000 in
theorem rank_yes {w : World} {b g : Nat} {l : List Nat} (hs : SeqAt 8 w b g l) (c : Nat) (hc : c < 2 ^ 8) (i : Nat) (hi : i ≤ l.length) :
    Calls Tryz.prog 136 #[.pointer (some ⟨b, 0, none⟩), .int .u8 (c : Int), .int .i64 (i : Int)] w fun e w' => e = .returned (.tuple #[.int .i64 (cnt (eqf l c) i : Int), .int .i64 0]) ∧ Below w.heap.size w w' := by
  have h0 := hs.len
  have h1 : ¬ (i : Int) < 0 := by omega
  have hn := hs.hn
  have hll := led_le c hc hs.lt (Nat.zero_le i) hi 8 (Nat.le_refl _)
  have HE : Hid _ := led_rank c hc hs.lt i hi
  go_enter Tryz.func136, Tryz.ntmps136
  go_wp2_with fail
  refine (places_any hs c hc 0 i (Nat.zero_le _) hi).mono ?_
  rintro e w1 ⟨rfl, hB1⟩
  go_wp2_with fail
  refine (long_any _ _ (by omega) (by omega) _).mono ?_
  rintro e w2 ⟨rfl, hB2⟩
  go_wp2
  go_ret2
  exact ⟨ret2_int (by rw [HE.out]; omega), chain hB1 hB2⟩

/-! ### At -/
theorem or_bit {d P : Nat} (hd : d < 8) (hP : P < 2 ^ d) : bits .or .u8 (acc 8 d P) (bitv 8 d) = acc 8 (d + 1) (2 * P + 1) := by
  unfold acc bitv
  rw [u8_or_nat _ _ (acc_lt (by omega) hP) (Nat.pow_lt_pow_right (by decide) (show 8 - 1 - d < 8 by omega)), acc_one hd]
theorem acc_all (x : Nat) : acc 8 8 (x / 2 ^ (8 - 8)) = (x : Int) := by unfold acc; simp
theorem acc_none {x : Nat} (hx : x < 2 ^ 8) : acc 8 0 (x / 2 ^ (8 - 0)) = 0 := by unfold acc; rw [Nat.sub_zero, Nat.div_eq_of_lt hx]; simp
theorem acc_false {d x : Nat} (hd : d < 8) (h : x.testBit (8 - 1 - d) = false) : acc 8 d (x / 2 ^ (8 - d)) = acc 8 (d + 1) (x / 2 ^ (8 - (d + 1))) := by
  have := pre_step x (8 - (d + 1))
  rw [show 8 - (d + 1) + 1 = 8 - d by omega, show x.testBit (8 - (d + 1)) = false by rw [← h]; congr 1; omega] at this
  rw [this, acc_zero hd]; rfl
theorem acc_true {d x : Nat} (hd : d < 8) (hx : x < 2 ^ 8) (h : x.testBit (8 - 1 - d) = true) : bits .or .u8 (acc 8 d (x / 2 ^ (8 - d))) (bitv 8 d) = acc 8 (d + 1) (x / 2 ^ (8 - (d + 1))) := by
  have := pre_step x (8 - (d + 1))
  rw [show 8 - (d + 1) + 1 = 8 - d by omega, show x.testBit (8 - (d + 1)) = true by rw [← h]; congr 1; omega] at this
  rw [this, or_bit hd (pre_lt (by omega) hx)]; rfl
set_option maxHeartbeats 400000 in
theorem at_no {w : World} {b g : Nat} {l : List Nat} (hs : SeqAt 8 w b g l) (i : Int) (h : i < 0 ∨ (l.length : Int) ≤ i) :
    Calls Tryz.prog 110 #[.pointer (some ⟨b, 0, none⟩), .int .i64 i] w fun e w' => e = .returned (.tuple #[.int .u8 0, .int .i64 1]) ∧ Below w.heap.size w w' := by
  have h0 := hs.len
  rcases h with h | h
  · go_enter Tryz.func110, Tryz.ntmps110
    go_wp2
    go_ret2
    exact ⟨rfl, Below.refl _ _⟩
  · have h1 : ¬ i < 0 := by omega
    go_enter Tryz.func110, Tryz.ntmps110
    go_wp2
    go_ret2
    exact ⟨rfl, Below.refl _ _⟩
set_option maxHeartbeats 2000000 in
theorem at_yes {w : World} {b g : Nat} {l : List Nat} (hs : SeqAt 8 w b g l) (i x : Nat) (hx : l[i]? = some x) :
    Calls Tryz.prog 110 #[.pointer (some ⟨b, 0, none⟩), .int .i64 (i : Int)] w fun e w' => e = .returned (.tuple #[.int .u8 (x : Int), .int .i64 0]) ∧ Below w.heap.size w w' := by
  have h0 := hs.len
  have h1 := hs.levels
  have hn := hs.hn
  have hi : i < l.length := by
    have := (led_at hx hs.lt 0 (by decide)).2
    exact this
  have hxB : x < 2 ^ 8 := hs.lt x (List.mem_of_getElem? hx)
  have hi0 : ¬ (i : Int) < 0 := by omega
  have HS : Hid _ := hs
  have HX : Hid (l[i]? = some x) := hx
  clear hs hx
  go_enter Tryz.func110, Tryz.ntmps110
  go_wp2
  go_loopw [1, 6, 25] (fun si sc sd wr => ∃ d q : Nat, d ≤ 8 ∧ sd = .int .i64 d ∧ si = .int .i64 (led 8 l x d i : Int) ∧ sc = .int .u8 (acc 8 d (x / 2 ^ (8 - d))) ∧ wr = w.drewN q) (fun _ _ sd _ => 8 - (intOf sd).toNat)
  case atStart => exact ⟨0, 0, Nat.zero_le _, rfl, rfl, by rw [acc_none hxB], rfl⟩
  case round =>
    obtain ⟨d, q, hd, rfl, rfl, rfl, rfl⟩ := hrel
    by_cases hlt : d < 8
    · obtain ⟨bb, bw, ba, W, hcell, hbits⟩ := HS.out.level d hlt
      obtain ⟨hat, hle⟩ := led_at HX.out HS.out.lt d (by omega)
      have hdI : (d : Int) < 8 := by omega
      have ho := isOne_any (hbits.drewN q) (led 8 l x d i) (by omega)
      rw [bitf_at hat] at ho
      have HO : Hid (Calls Tryz.prog 132 _ _ _) := ho
      have HB : Hid _ := hbits
      clear ho hbits hat
      cases hbit : x.testBit (8 - 1 - d)
      · rw [hbit] at HO
        have HA : Hid _ := acc_false hlt hbit
        have HL : Hid _ := led_next (l := l) (t := i) false hbit.symm
        clear hbit
        go_wp2_with fail
        refine HO.out.mono ?_
        rintro e w1 ⟨rfl, rfl⟩
        go_wp2_with fail
        refine (down_any (HB.out.drewN q) false _ (by omega) _ rfl).mono ?_
        rintro e w1 ⟨rfl, q2, rfl⟩
        go_wp2
        go_roundw
        case rel => exact ⟨d + 1, q + q2, by omega, by go_num, by rw [HL.out], by rw [HA.out], rfl⟩
        case measure => simp [intOf]; omega
      · rw [hbit] at HO
        have HA : Hid _ := acc_true hlt hxB hbit
        have HL : Hid _ := led_next (l := l) (t := i) true hbit.symm
        clear hbit
        go_wp2_with fail
        refine HO.out.mono ?_
        rintro e w1 ⟨rfl, rfl⟩
        go_wp2_with fail
        refine (bitAt_any (HS.out.drewN q) d hlt).mono ?_
        rintro e w1 ⟨rfl, rfl⟩
        go_wp2_with fail
        refine (down_any (HB.out.drewN q) true _ (by omega) _ rfl).mono ?_
        rintro e w1 ⟨rfl, q2, rfl⟩
        go_wp2
        go_roundw
        case rel => exact ⟨d + 1, q + q2, by omega, by go_num, by rw [HL.out], by rw [HA.out], rfl⟩
        case measure => simp [intOf]; omega
    · obtain rfl : d = 8 := by omega
      have HA : Hid _ := acc_all x
      go_wp2
      go_ret2
      exact ⟨by rw [← HA.out]; rfl, below_drewN (Below.refl _ _) _⟩
end Go.Proofs.YtphjbbbnbmafnabGreatDoor.S8

namespace Go.Proofs.YtphjbbbnbmafnabGreatDoor.S8
open Go.RowKit Go.Proofs.YtphjbbbnbmafnabGreatDoor

end Go.Proofs.YtphjbbbnbmafnabGreatDoor.S8

namespace Go.Proofs.YtphjbbbnbmafnabGreatDoor.S8
open Go.RowKit Go.Proofs.YtphjbbbnbmafnabGreatDoor

theorem bel_first (s : List Nat) (c : Nat) (hc : c < 2 ^ 8) : (s.filter (fun z => decide (z / 2 ^ (8 - 0) < c / 2 ^ (8 - 0)))).length = 0 := by
  rw [Nat.sub_zero, Nat.div_eq_of_lt hc]
  simp
theorem bel_last (l : List Nat) (x y c : Nat) : (((l.take y).drop x).filter (fun z => decide (z / 2 ^ (8 - 8) < c / 2 ^ (8 - 8)))).length = bel l x y c := by
  unfold bel; simp
theorem bel_step {s : List Nat} {c d : Nat} (hd : d < 8) (o : Bool) (ho : c.testBit (8 - 1 - d) = o) : (s.filter (fun z => decide (z / 2 ^ (8 - (d + 1)) < c / 2 ^ (8 - (d + 1))))).length = (s.filter (fun z => decide (z / 2 ^ (8 - d) < c / 2 ^ (8 - d)))).length + (if o then ((s.filter (fun z => z / 2 ^ (8 - d) == c / 2 ^ (8 - d))).filter (fun z => z.testBit (8 - 1 - d) == false)).length else 0) := by
  have h := below_step s (c / 2 ^ (8 - d)) (8 - 1 - d) o
  rw [show 8 - 1 - d + 1 = 8 - d by omega] at h
  rw [← h, show 8 - (d + 1) = 8 - 1 - d by omega, pre_step c (8 - 1 - d), ho, show 8 - 1 - d + 1 = 8 - d by omega]

theorem bel_num {N a b m : Nat} (h : b = a + m) : Value.int .i64 ((N : Int) + ((b : Int) - (a : Int))) = .int .i64 ((N + m : Nat) : Int) := by
  congr 1
  omega
set_option maxHeartbeats 2000000 in
theorem below_no {w : World} {b g : Nat} {l : List Nat} (hs : SeqAt 8 w b g l) (c x y : Int) (h : ¬ (0 ≤ x ∧ x ≤ y ∧ y ≤ (l.length : Int))) :
    Calls Tryz.prog 134 #[.pointer (some ⟨b, 0, none⟩), .agg #[.int .i64 x, .int .i64 y], .int .u8 c] w fun e w' => e = .returned (.tuple #[.int .i64 0, .int .i64 1]) ∧ Below w.heap.size w w' := by
  have hnew : Below w.heap.size w (w.alloc (.cells #[.int .i64 x, .int .i64 y] 133)) := (Below.refl _ _).alloc (Nat.le_refl _) _
  have h0 := (hs.below hnew).len
  have HSp : Hid (∀ w2, Calls Tryz.prog 93 _ w2 _) := fun w2 => isSpan_any x y (l.length : Int) w2
  rw [decide_eq_false h] at HSp
  have HB : Hid _ := hnew
  clear hnew h
  go_enter Tryz.func134, Tryz.ntmps134
  go_wp2
  go_region_held (fun w' => w'.cell? ⟨w.heap.size, 0, none⟩ = some (.int .i64 x) ∧ w'.cell? ⟨w.heap.size, 1, none⟩ = some (.int .i64 y) ∧ w'.cell? ⟨b, 0, none⟩ = some (.int .i64 (l.length : Int))) (go_keep) (first
    | (go_at_call 93; refine (HSp.out _).mono ?_; rintro e w' ⟨rfl, hB⟩; have q0 := cell_kept hB ⟨w.heap.size, 0, none⟩ (.int .i64 x) (by simp); have q1 := cell_kept hB ⟨w.heap.size, 1, none⟩ (.int .i64 y) (by simp); have q2 := cell_kept hB ⟨b, 0, none⟩ (.int .i64 (l.length : Int)) h0))
  go_wp2
  go_ret2
  exact ⟨rfl, chain (HB.out.drew) hB⟩
set_option maxHeartbeats 4000000 in
theorem below_yes {w : World} {b g : Nat} {l : List Nat} (hs : SeqAt 8 w b g l) (c x y : Nat) (hc : c < 2 ^ 8) (hxy : x ≤ y) (hy : y ≤ l.length) :
    Calls Tryz.prog 134 #[.pointer (some ⟨b, 0, none⟩), .agg #[.int .i64 (x : Int), .int .i64 (y : Int)], .int .u8 (c : Int)] w fun e w' => e = .returned (.tuple #[.int .i64 (bel l x y c : Int), .int .i64 0]) ∧ Below w.heap.size w w' := by
  have hnew : Below w.heap.size w (w.alloc (.cells #[.int .i64 (x : Int), .int .i64 (y : Int)] 133)) := (Below.refl _ _).alloc (Nat.le_refl _) _
  have h0 := (hs.below hnew).len
  have h1 := (hs.below hnew).levels
  have hn := hs.hn
  have HSp : Hid (∀ w2, Calls Tryz.prog 93 _ w2 _) := fun w2 => isSpan_any (x : Int) (y : Int) (l.length : Int) w2
  rw [decide_eq_true (show (0 : Int) ≤ (x : Int) ∧ (x : Int) ≤ (y : Int) ∧ (y : Int) ≤ (l.length : Int) by omega)] at HSp
  have HB : Hid _ := hnew
  have HX0 : Hid _ := box2_new w (.int .i64 (x : Int)) (.int .i64 (y : Int)) 133
  have HS : Hid _ := hs
  have hsl : ((l.take y).drop x).length ≤ l.length := by simp; omega
  have HF : Hid _ := bel_first ((l.take y).drop x) c hc
  clear hnew hs
  go_enter Tryz.func134, Tryz.ntmps134
  go_wp2
  go_region_held (fun w' => w'.cell? ⟨w.heap.size, 0, none⟩ = some (.int .i64 (x : Int)) ∧ w'.cell? ⟨w.heap.size, 1, none⟩ = some (.int .i64 (y : Int)) ∧ w'.cell? ⟨b, 0, none⟩ = some (.int .i64 (l.length : Int))) (go_keep) (first
    | (go_at_call 93; refine (HSp.out _).mono ?_; rintro e w' ⟨rfl, hB⟩; have q0 := cell_kept hB ⟨w.heap.size, 0, none⟩ (.int .i64 (x : Int)) (by simp); have q1 := cell_kept hB ⟨w.heap.size, 1, none⟩ (.int .i64 (y : Int)) (by simp); have q2 := cell_kept hB ⟨b, 0, none⟩ (.int .i64 (l.length : Int)) h0))
  have hl1 := cell_kept hB ⟨b, 1, none⟩ (.slice (some ⟨g, 0, none⟩) 8 8) h1
  have hX1 := (HX0.out.drew).below hB
  have hb1 := chain (HB.out.drew) hB
  clear q0 q1 q2 hB h0 h1
  go_wp2
  go_loopw [8, 24] (fun sb sd wr => ∃ d : Nat, d ≤ 8 ∧ sd = .int .i64 d ∧ sb = .int .i64 ((((l.take y).drop x).filter (fun z => decide (z / 2 ^ (8 - d) < c / 2 ^ (8 - d)))).length : Int) ∧ Box2 wr w.heap.size (.int .i64 (led 8 l c d x : Int)) (.int .i64 (led 8 l c d y : Int)) ∧ Below w.heap.size w wr) (fun _ sd _ => 8 - (intOf sd).toNat)
  case atStart => exact ⟨0, Nat.zero_le _, rfl, by rw [HF.out]; rfl, hX1, hb1⟩
  case round =>
    clear hl1 hX1 hb1
    obtain ⟨d, hd, rfl, rfl, hX, hbel⟩ := hrel
    by_cases hlt : d < 8
    · have hs1 := HS.out.below hbel
      obtain ⟨bb, bw, ba, W, hcell, hbits⟩ := hs1.level d hlt
      have hll := led_le c hc hs1.lt hxy hy d (by omega)
      have hdI : (d : Int) < 8 := by omega
      have hA := and_bit c d hc hlt
      have k0 := hX.c0
      have k1 := hX.c1
      have f0 := hX.f0
      have f1 := hX.f1
      have HX : Hid _ := hX
      have HBe : Hid _ := hbel
      have HS1 : Hid _ := hs1
      have HB1 : Hid _ := hbits
      have hsf := List.length_filter_le (fun z => decide (z / 2 ^ (8 - d) < c / 2 ^ (8 - d))) ((l.take y).drop x)
      generalize hN : (((l.take y).drop x).filter (fun z => decide (z / 2 ^ (8 - d) < c / 2 ^ (8 - d)))).length = N0 at hsf ⊢
      have HN : Hid (_ = N0) := hN
      clear hX hbel hs1 hbits hN
      cases hbit : c.testBit (8 - 1 - d)
      · rw [hbit] at hA
        have HBS : Hid _ := bel_step (s := (l.take y).drop x) hlt false hbit
        have HBI : Hid _ := hbit
        clear hbit
        go_wp2_with fail
        refine (bitAt_any HS1.out d hlt).mono ?_
        rintro e w1 ⟨rfl, rfl⟩
        go_wp2_with fail
        refine (narrow_any HB1.out false _ _ (by omega) (by omega) _ _ rfl rfl).mono ?_
        rintro e w1 ⟨rfl, hB⟩
        have hX2 := HX.out.below hB
        have j0 := hX2.c0
        have j1 := hX2.c1
        have g0 := hX2.f0
        have g1 := hX2.f1
        go_wp2
        go_roundw
        case rel => exact ⟨d + 1, by omega, by go_num, by rw [HBS.out, HN.out]; rfl, box_next HBI.out.symm (hX2.set _ _), own2 (chain HBe.out hB) (Nat.le_refl _) _ _⟩
        case measure => simp [intOf]; omega
      · rw [hbit] at hA
        have hbs := bel_step (s := (l.take y).drop x) hlt true hbit
        rw [if_pos rfl] at hbs
        have HBI : Hid _ := hbit
        have hz := seg_len (seg_down (8 - 1 - d) (seg_led c (seg_of l x y hxy hy) hc HS1.out.lt d (by omega)) false)
        rw [lev_length, part_length, lev_length] at hz
        simp only [Nat.reduceSub] at hz hbs
        obtain ⟨hz1, hz2⟩ := hz
        have hz3 := Nat.le_trans (Nat.le.intro hz1.symm) hz2
        have HZ : Hid _ := hz1
        have HBS : Hid _ := hbs
        clear hbit hz1 hbs
        go_wp2_with fail
        refine (bitAt_any HS1.out d hlt).mono ?_
        rintro e w1 ⟨rfl, rfl⟩
        go_wp2_with fail
        refine (narrow_any HB1.out false _ _ (by omega) (by omega) _ _ rfl rfl).mono ?_
        rintro e w1 ⟨rfl, hB⟩
        go_wp2_with fail
        refine (long_any _ _ (by omega) (by omega) _).mono ?_
        rintro e w2 ⟨rfl, hB2⟩
        have hB3 := chain hB hB2
        have hX2 := HX.out.below hB3
        have j0 := hX2.c0
        have j1 := hX2.c1
        go_wp2_with fail
        refine (narrow_any (HB1.out.below hB3) true _ _ (by omega) (by omega) _ _ rfl rfl).mono ?_
        rintro e w3 ⟨rfl, hB4⟩
        have hX3 := hX2.below hB4
        have i0 := hX3.c0
        have i1 := hX3.c1
        have g0 := hX3.f0
        have g1 := hX3.f1
        go_wp2
        go_roundw
        case rel => exact ⟨d + 1, by omega, by go_num, by simp only [HBS.out, HN.out]; exact bel_num HZ.out, box_next HBI.out.symm (hX3.set _ _), own2 (chain (chain HBe.out hB3) hB4) (Nat.le_refl _) _ _⟩
        case measure => simp [intOf]; omega
    · obtain rfl : d = 8 := by omega
      have HL : Hid _ := bel_last l x y c
      rw [HL.out]
      go_wp2
      go_ret2
      exact ⟨rfl, hbel⟩

/-! ### Least -/
end Go.Proofs.YtphjbbbnbmafnabGreatDoor.S8

namespace Go.Proofs.YtphjbbbnbmafnabGreatDoor.S8
open Go.RowKit Go.Proofs.YtphjbbbnbmafnabGreatDoor

/-- what is left of a span at level d: those that begin with the bits P -/
structure Left (l s : List Nat) (k d P kd A Z : Nat) : Prop where
  seg : Seg (lev 8 l d) A Z (s.filter (fun z => z / 2 ^ (8 - d) == P))
  sum : (s.filter (fun z => decide (z / 2 ^ (8 - d) < P))).length + kd = k
  has : kd < (s.filter (fun z => z / 2 ^ (8 - d) == P)).length
  lt : P < 2 ^ d
theorem Left.len {l s : List Nat} {k d P kd A Z : Nat} (h : Left l s k d P kd A Z) : A ≤ Z ∧ Z ≤ l.length := by
  have := seg_len h.seg
  rw [lev_length] at this
  omega
theorem left_first {l : List Nat} {k x y : Nat} (hl : ∀ z ∈ l, z < 2 ^ 8) (hxy : x ≤ y) (hy : y ≤ l.length) (hk : k < y - x) : Left l ((l.take y).drop x) k 0 0 k x y := by
  have e : ((l.take y).drop x).filter (fun z => z / 2 ^ (8 - 0) == 0) = (l.take y).drop x := by
    rw [List.filter_eq_self]
    intro z hz
    rw [Nat.sub_zero, Nat.div_eq_of_lt (hl z (List.mem_of_mem_take (List.mem_of_mem_drop hz)))]; rfl
  refine ⟨?_, ?_, ?_, by decide⟩
  · rw [e]; exact seg_of l x y hxy hy
  · simp
  · rw [e]; simp; omega
/-- the zeros of what is left -/
theorem left_zeros {l s : List Nat} {k d P kd A Z : Nat} (h : Left l s k d P kd A Z) :
    down (bitf (lev 8 l d) (8 - 1 - d)) l.length false Z = down (bitf (lev 8 l d) (8 - 1 - d)) l.length false A + ((s.filter (fun z => z / 2 ^ (8 - d) == P)).filter (fun z => z.testBit (8 - 1 - d) == false)).length ∧ down (bitf (lev 8 l d) (8 - 1 - d)) l.length false Z ≤ l.length := by
  have := seg_len (seg_down (8 - 1 - d) h.seg false)
  rw [lev_length, part_length, lev_length] at this
  exact this
theorem left_next {l s : List Nat} {k d P kd A Z : Nat} (hd : d < 8) (h : Left l s k d P kd A Z) (o : Bool) (kd' : Nat)
    (ho : (o = false ∧ kd' = kd ∧ kd < ((s.filter (fun z => z / 2 ^ (8 - d) == P)).filter (fun z => z.testBit (8 - 1 - d) == false)).length) ∨
      (o = true ∧ kd = kd' + ((s.filter (fun z => z / 2 ^ (8 - d) == P)).filter (fun z => z.testBit (8 - 1 - d) == false)).length)) :
    Left l s k (d + 1) (2 * P + o.toNat) kd' (down (bitf (lev 8 l d) (8 - 1 - d)) l.length o A) (down (bitf (lev 8 l d) (8 - 1 - d)) l.length o Z) := by
  have e1 : 8 - (d + 1) = 8 - 1 - d := by omega
  have e2 : 8 - d = 8 - 1 - d + 1 := by omega
  have h1 := seg_down (8 - 1 - d) h.seg o
  have h2 := below_step s P (8 - 1 - d) o
  have h3 := filter_split (8 - 1 - d) (s.filter (fun z => z / 2 ^ (8 - d) == P))
  have h4 := h.sum
  have h5 := h.has
  have h6 := filter_step s P (8 - 1 - d) o
  rw [← e2] at h2 h6
  rw [h6, lev_length] at h1
  refine ⟨by rw [e1]; exact h1, ?_, ?_, ?_⟩
  · rw [e1, h2]
    rcases ho with ⟨rfl, rfl, _⟩ | ⟨rfl, e⟩
    · simpa using h4
    · rw [if_pos rfl]; omega
  · rw [e1, ← h6]
    rcases ho with ⟨rfl, rfl, e⟩ | ⟨rfl, e⟩
    · exact e
    · omega
  · have := h.lt
    have := Bool.toNat_le o
    rw [Nat.pow_succ]; omega
theorem left_last {l : List Nat} {k P kd A Z x y : Nat} (h : Left l ((l.take y).drop x) k 8 P kd A Z) : bel l x y P ≤ k ∧ k < bel l x y P + eqn l x y P ∧ P < 2 ^ 8 := by
  have h1 := h.sum
  have h2 := h.has
  simp only [Nat.sub_self, Nat.pow_zero, Nat.div_one] at h1 h2
  unfold bel eqn
  exact ⟨by omega, by omega, h.lt⟩
theorem acc_end (P : Nat) : acc 8 8 P = (P : Int) := by unfold acc; simp

end Go.Proofs.YtphjbbbnbmafnabGreatDoor.S8

namespace Go.Proofs.YtphjbbbnbmafnabGreatDoor
open Go.RowKit

/-- a slice in memory that reads as the list l of numbers of kind K -/
def NumsAt (K : IntKind) (w : World) (v : Value) (l : List Nat) : Prop :=
  ∃ a0 cap, v = .slice a0 l.length cap ∧ (l.length = 0 ∨ ∃ g off, a0 = some ⟨g, off, none⟩ ∧ ∀ (j x : Nat), l[j]? = some x → w.cell? ⟨g, off + j, none⟩ = some (.int K (x : Int)))
theorem NumsAt.kept {K : IntKind} {w w' : World} {v : Value} {l : List Nat} (h : NumsAt K w v l) (hk : ∀ p v, w.cell? p = some v → w'.cell? p = some v) : NumsAt K w' v l := by
  obtain ⟨a0, cap, hv, h⟩ := h
  refine ⟨a0, cap, hv, ?_⟩
  rcases h with h | ⟨g, off, hg, hc⟩
  · exact .inl h
  · exact .inr ⟨g, off, hg, fun j x hj => hk _ _ (hc j x hj)⟩
theorem NumsAt.below {K : IntKind} {w w' : World} {v : Value} {l : List Nat} (h : NumsAt K w v l) (hB : Below w.heap.size w w') : NumsAt K w' v l := h.kept (cell_kept hB)
def vals (K : IntKind) (l : List Nat) : List Value := l.map fun (x : Nat) => Value.int K (x : Int)
theorem vals_len (K : IntKind) (l : List Nat) : (vals K l).length = l.length := by simp [vals]
theorem vals_snoc (K : IntKind) (l : List Nat) (x : Nat) : vals K (l ++ [x]) = vals K l ++ [.int K (x : Int)] := by simp [vals]
theorem nums_own {K : IntKind} {w : World} {B : Nat} {e : TypeId} {v : Value} {l : List Nat} (h : w.ownsRow B e 1 v l.length (vals K l)) : NumsAt K w v l := by
  rcases h.2 with ⟨rfl, h0⟩ | ⟨g, cap, cur, rfl, _⟩
  · exact ⟨none, 0, by rw [h0], .inl h0⟩
  · refine ⟨_, cap, rfl, .inr ⟨g, 0, rfl, fun j x hj => ?_⟩⟩
    have hjl : j < l.length := by
      rcases Nat.lt_or_ge j l.length with e | e
      · exact e
      · rw [List.getElem?_eq_none e] at hj; cases hj
    rw [Nat.zero_add, h.cellAt j (by omega)]
    unfold vals
    rw [List.getElem?_map, hj]; rfl
theorem NumsAt.open {K : IntKind} {w : World} {v : Value} {l : List Nat} (h : NumsAt K w v l) : ∃ a0 cap, v = .slice a0 l.length cap ∧ ∀ (k x : Nat), l[k]? = some x → ∃ g off, a0 = some ⟨g, off, none⟩ ∧ w.cell? ⟨g, off + k, none⟩ = some (.int K (x : Int)) := by
  obtain ⟨a0, cap, hv, h⟩ := h
  refine ⟨a0, cap, hv, fun k x hk => ?_⟩
  rcases h with h | ⟨g, off, hg, hc⟩
  · rw [List.getElem?_eq_none (by omega)] at hk; cases hk
  · exact ⟨g, off, hg, hc k x hk⟩
theorem some_at' {l : List Nat} {k : Nat} (h : k < l.length) : ∃ x, l[k]? = some x := ⟨l[k], List.getElem?_eq_getElem h⟩

/-! ### words of bits -/
theorem word_cell {f : Nat → Bool} {wr : World} {B n k : Nat} {xs : List Value} (hlt : k < n) (hown : wr.ownsRow B 112 1 (.slice (some ⟨B, 0, none⟩) (n / 64 + 1) (n / 64 + 1)) (n / 64 + 1) xs) (hwo : Words f (n / 64 + 1) k xs) :
    ∃ X : Nat, wr.cell? ⟨B, k / 64, none⟩ = some (.int .u64 (X : Int)) ∧ wr.frozen? ⟨B, k / 64, none⟩ = false ∧ Hid (X = wordOf (upto f k) (k / 64) 64) :=
  ⟨_, (hown.cellAt (k / 64) (by omega)).trans (hwo.2 (k / 64) (by omega)), hown.frozenAt (k / 64), (rfl : _ = _)⟩
/-- the row of words, the first k bits told -/
def RelW (f : Nat → Bool) (n : Nat) (w : World) (c : Value) (wr : World) : Prop := ∃ (k : Nat) (xs : List Value), k ≤ n ∧ c = .int .i64 k ∧ wr.ownsRow w.heap.size 112 1 (.slice (some ⟨w.heap.size, 0, none⟩) (n / 64 + 1) (n / 64 + 1)) (n / 64 + 1) xs ∧ Below w.heap.size w wr ∧ Words f (n / 64 + 1) k xs
theorem relw_set {f : Nat → Bool} {n : Nat} {w wr : World} {k X : Nat} {xs : List Value} (hlt : k < n) (hf : f k = true) (hown : wr.ownsRow w.heap.size 112 1 (.slice (some ⟨w.heap.size, 0, none⟩) (n / 64 + 1) (n / 64 + 1)) (n / 64 + 1) xs)
    (hwo : Words f (n / 64 + 1) k xs) (hbel : Below w.heap.size w wr) (hX : X = wordOf (upto f k) (k / 64) 64) :
    RelW f n w (.int .i64 ((k : Int) + 1)) (wr.setCell { block := w.heap.size, off := k / 64 } (Value.int IntKind.u64 (bits BinOp.or IntKind.u64 (X : Int) (IntKind.u64.wrap (2 ^ (k % 64)))))).drew := by
  have hx : X < 18446744073709551616 := by rw [hX]; exact wordOf_64 _ _
  have hu := or_int X (k % 64) hx (by omega)
  have hst := (hown.stored (k / 64) (.int .u64 (bits BinOp.or IntKind.u64 (X : Int) (IntKind.u64.wrap (2 ^ (k % 64)))))).1
  have hws := words_set hwo hf (bits BinOp.or IntKind.u64 (X : Int) (IntKind.u64.wrap (2 ^ (k % 64)))) (by rw [hu, ← hX])
  exact ⟨k + 1, _, by omega, by go_num, hst.drew, (hbel.setCell (Nat.le_refl _) _).drew, hws⟩
theorem bow_of {f : Nat → Bool} {n : Nat} {w wr : World} {xs : List Value} (hs : n ≤ 100000) (hout : ∀ i, n ≤ i → f i = false) (hown : wr.ownsRow w.heap.size 112 1 (.slice (some ⟨w.heap.size, 0, none⟩) (n / 64 + 1) (n / 64 + 1)) (n / 64 + 1) xs) (hwo : Words f (n / 64 + 1) n xs) :
    Calls Tryz.prog 74 #[.slice (some ⟨w.heap.size, 0, none⟩) (n / 64 + 1) (n / 64 + 1), .int .i64 (n : Int)] wr fun e w' => ∃ b ba, e = .returned (.pointer (some ⟨b, 0, none⟩)) ∧ BitsAt w' b w.heap.size ba f n (fun j => wordOf f j 64) ∧ Below wr.heap.size wr w' := by
  refine bow_any w.heap.size n f (fun j => wordOf f j 64) hs ?_ (fun j => wordOf_64 _ _) ?_ hout
  · intro j hj
    rw [hown.cellAt j (by omega), hwo.2 j hj]
    have e : wordOf (upto f n) j 64 = wordOf f j 64 := wordOf_congr fun i _ => by
      unfold upto
      by_cases e : 64 * j + i < n
      · simp [e]
      · rw [hout _ (by omega)]; rfl
    rw [e]
  · intro j i hi
    show (wordOf f j 64).testBit i = _
    rw [wordOf_bit]; simp [hi]
end Go.Proofs.YtphjbbbnbmafnabGreatDoor
