/-
  The questions to a sequence of numbers of 8 bits that lies in memory as NewSeq makes it: Len, At, Rank, Select, Below, Least answer what the document says of its list, or ErrRange; nothing that was there is written. The sequence's reading is the one condition.
-/
import Derived.Test.YtphjbbbnbmafnabGreatDoorBel
namespace Go.Proofs.YtphjbbbnbmafnabGreatDoor.S8
open Go.RowKit Go.Proofs.YtphjbbbnbmafnabGreatDoor

theorem and_bit (c d : Nat) (hc : c < 2 ^ 8) (hd : d < 8) : (bits .and .u8 (c : Int) (bitv 8 d) != 0) = c.testBit (8 - 1 - d) := by
  unfold bitv
  rw [u8_and_nat c _ hc (Nat.pow_lt_pow_right (by decide) (show 8 - 1 - d < 8 by omega))]
  exact bit_ne c _
set_option maxHeartbeats 400000 in
theorem bitAt_any {w : World} {b g : Nat} {l : List Nat} (hs : SeqAt 8 w b g l) (d : Nat) (hd : d < 8) :
    Calls Tryz.prog 76 #[.pointer (some ⟨b, 0, none⟩), .int .i64 (d : Int)] w fun e w' => e = .returned (.int .u8 (bitv 8 d)) ∧ w' = w := by
  have h1 := hs.levels
  go_enter Tryz.func76, Tryz.ntmps76
  go_wp2
  go_ret
  refine ⟨ret1_int ?_, rfl⟩
  have hp : 2 ^ (8 - 1 - d) < 2 ^ 8 := Nat.pow_lt_pow_right (by decide) (by omega)
  unfold bitv
  rw [← two_pow_int]
  try rw [IntKind.wrap_u8]
  simp only [Nat.reducePow, Nat.reduceSub] at hp ⊢
  generalize 2 ^ _ = m at *
  omega
theorem led_next {l : List Nat} {c d t : Nat} (o : Bool) (ho : o = c.testBit (8 - 1 - d)) : down (bitf (lev 8 l d) (8 - 1 - d)) l.length o (led 8 l c d t) = led 8 l c (d + 1) t := by
  rw [ho]; rfl
theorem box_next {w : World} {X : Nat} {l : List Nat} {c d x y : Nat} {o : Bool} (ho : o = c.testBit (8 - 1 - d))
    (h : Box2 w X (.int .i64 (down (bitf (lev 8 l d) (8 - 1 - d)) l.length o (led 8 l c d x) : Int)) (.int .i64 (down (bitf (lev 8 l d) (8 - 1 - d)) l.length o (led 8 l c d y) : Int))) :
    Box2 w X (.int .i64 (led 8 l c (d + 1) x : Int)) (.int .i64 (led 8 l c (d + 1) y : Int)) := by
  rw [led_next o ho, led_next o ho] at h; exact h
set_option maxHeartbeats 2000000 in
/-- placesOf: where the numbers of a span that are c lie below the last level -/
theorem places_any {w : World} {b g : Nat} {l : List Nat} (hs : SeqAt 8 w b g l) (c : Nat) (hc : c < 2 ^ 8) (x y : Nat) (hxy : x ≤ y) (hy : y ≤ l.length) :
    Calls Tryz.prog 151 #[.pointer (some ⟨b, 0, none⟩), .int .u8 (c : Int), .agg #[.int .i64 (x : Int), .int .i64 (y : Int)]] w fun e w' => e = .returned (.agg #[.int .i64 (led 8 l c 8 x : Int), .int .i64 (led 8 l c 8 y : Int)]) ∧ Below w.heap.size w w' := by
  have hB := two_below w (.cells #[.int .i64 (x : Int), .int .i64 (y : Int)] 133) (.cells #[.int .i64 0, .int .i64 0] 133)
  have hX : Box2 ((w.alloc (.cells #[.int .i64 (x : Int), .int .i64 (y : Int)] 133)).alloc (.cells #[.int .i64 0, .int .i64 0] 133)) w.heap.size (.int .i64 (x : Int)) (.int .i64 (y : Int)) := (box2_new w _ _ _).below ((Below.refl _ _).alloc (Nat.le_refl _) _)
  have hR : Box2 ((w.alloc (.cells #[.int .i64 (x : Int), .int .i64 (y : Int)] 133)).alloc (.cells #[.int .i64 0, .int .i64 0] 133)) (w.heap.size + 1) (.int .i64 0) (.int .i64 0) := by
    have := box2_new (w.alloc (.cells #[.int .i64 (x : Int), .int .i64 (y : Int)] 133)) (.int .i64 0) (.int .i64 0) 133
    simpa using this
  have h1 := (hs.below hB).levels
  have HS : Hid _ := hs
  clear hs
  go_enter Tryz.func151, Tryz.ntmps151
  go_wp2
  go_loopw [14] (fun cc wr => ∃ d : Nat, d ≤ 8 ∧ cc = .int .i64 d ∧ Box2 wr w.heap.size (.int .i64 (led 8 l c d x : Int)) (.int .i64 (led 8 l c d y : Int)) ∧ Box2 wr (w.heap.size + 1) (.int .i64 0) (.int .i64 0) ∧ Below w.heap.size w wr) (fun cc _ => 8 - (intOf cc).toNat)
  case atStart => exact ⟨0, Nat.zero_le _, rfl, hX, hR, hB⟩
  case round =>
    clear hX hR hB h1
    obtain ⟨d, hd, rfl, hX, hR, hbel⟩ := hrel
    by_cases hlt : d < 8
    · have hs1 := HS.out.below hbel
      obtain ⟨bb, bw, ba, W, hcell, hbits⟩ := hs1.level d hlt
      have hll := led_le c hc hs1.lt hxy hy d (by omega)
      have HN := and_bit c d hc hlt
      have hdI : (d : Int) < 8 := by omega
      have hbn := hbits.hn
      have k0 := hX.c0
      have k1 := hX.c1
      have HX : Hid _ := hX
      have HR : Hid _ := hR
      have HBe : Hid _ := hbel
      have HS1 : Hid _ := hs1
      have HB1 : Hid _ := hbits
      have HA : Hid _ := HN
      clear hX hR hbel hs1 hbits HN
      go_wp2
      go_region_with (first
        | (go_at_call 76; refine (bitAt_any (l := l) (g := g) ?_ d hlt).mono ?_; exact (HS1.out.kept (fun _ _ h => h)); rintro e w' ⟨rfl, rfl⟩)
        | (go_at_call 141; refine (narrow_any (bw := bw) (ba := ba) (W := W) (f := bitf (lev 8 l d) (8 - 1 - d)) (n := l.length) ?_ _ (led 8 l c d x) (led 8 l c d y) ?_ ?_ _ _ rfl rfl).mono ?_; exact (HB1.out.kept (fun _ _ h => h)); omega; omega; rintro e w' ⟨rfl, hB⟩; have hX2 := (HX.out.drew).below hB; have f0 := hX2.f0; have f1 := hX2.f1; have g0 := hX2.c0; have g1 := hX2.c1))
      all_goals
        go_wp2
        go_roundw
        case rel => exact ⟨d + 1, by omega, by go_num, box_next HA.out (hX2.set _ _), ((HR.out.drew).below hB).far (by omega) _ _, own2 (chain (HBe.out.drew) hB) (Nat.le_refl _) _ _⟩
        case measure => simp [intOf]; omega
    · obtain rfl : d = 8 := by omega
      have k0 := hX.c0
      have k1 := hX.c1
      have r0 := hR.c0
      have r1 := hR.c1
      have rf0 := hR.f0
      have rf1 := hR.f1
      go_wp2
      refine bodyPost_ret (v := .agg #[.int .i64 (led 8 l c 8 x : Int), .int .i64 (led 8 l c 8 y : Int)]) (by simp [results, Tryz.results151, go_sem, *]) rfl ?_
      exact ⟨rfl, own2 hbel (by omega) _ _⟩

set_option maxHeartbeats 400000 in
theorem len_any {w : World} {b g : Nat} {l : List Nat} (hs : SeqAt 8 w b g l) :
    Calls Tryz.prog 150 #[.pointer (some ⟨b, 0, none⟩)] w fun e w' => e = .returned (.int .i64 (l.length : Int)) ∧ w' = w := by
  have h0 := hs.len
  go_enter Tryz.func150, Tryz.ntmps150
  go_wp2
  go_ret
  exact ⟨rfl, rfl⟩
set_option maxHeartbeats 400000 in
theorem rank_no {w : World} {b g : Nat} {l : List Nat} (hs : SeqAt 8 w b g l) (c : Int) (i : Int) (h : i < 0 ∨ (l.length : Int) < i) :
    Calls Tryz.prog 136 #[.pointer (some ⟨b, 0, none⟩), .int .u8 c, .int .i64 i] w fun e w' => e = .returned (.tuple #[.int .i64 0, .int .i64 1]) ∧ Below w.heap.size w w' := by
  have h0 := hs.len
  rcases h with h | h
  · go_enter Tryz.func136, Tryz.ntmps136
    go_wp2
    go_ret2
    exact ⟨rfl, Below.refl _ _⟩
  · have h1 : ¬ i < 0 := by omega
    go_enter Tryz.func136, Tryz.ntmps136
    go_wp2
    go_ret2
    exact ⟨rfl, Below.refl _ _⟩
set_option maxHeartbeats 400000 in
theorem rank_yes {w : World} {b g : Nat} {l : List Nat} (hs : SeqAt 8 w b g l) (c : Nat) (hc : c < 2 ^ 8) (i : Nat) (hi : i ≤ l.length) :
    Calls Tryz.prog 136 #[.pointer (some ⟨b, 0, none⟩), .int .u8 (c : Int), .int .i64 (i : Int)] w fun e w' => e = .returned (.tuple #[.int .i64 (cnt (eqf l c) i : Int), .int .i64 0]) ∧ Below w.heap.size w w' := by
  have h0 := hs.len
  have h1 : ¬ (i : Int) < 0 := by omega
  have hn := hs.hn
  have hll := led_le c hc hs.lt (Nat.zero_le i) hi 8 (Nat.le_refl _)
  have HE : Hid _ := led_rank c hc hs.lt i hi
  go_enter Tryz.func136, Tryz.ntmps136
  go_wp2_with fail
  refine (places_any hs c hc 0 i (Nat.zero_le _) hi).mono ?_
  rintro e w1 ⟨rfl, hB1⟩
  go_wp2_with fail
  refine (long_any _ _ (by omega) (by omega) _).mono ?_
  rintro e w2 ⟨rfl, hB2⟩
  go_wp2
  go_ret2
  exact ⟨ret2_int (by rw [HE.out]; omega), chain hB1 hB2⟩

/-! ### At -/
theorem or_bit {d P : Nat} (hd : d < 8) (hP : P < 2 ^ d) : bits .or .u8 (acc 8 d P) (bitv 8 d) = acc 8 (d + 1) (2 * P + 1) := by
  unfold acc bitv
  rw [u8_or_nat _ _ (acc_lt (by omega) hP) (Nat.pow_lt_pow_right (by decide) (show 8 - 1 - d < 8 by omega)), acc_one hd]
theorem acc_all (x : Nat) : acc 8 8 (x / 2 ^ (8 - 8)) = (x : Int) := by unfold acc; simp
theorem acc_none {x : Nat} (hx : x < 2 ^ 8) : acc 8 0 (x / 2 ^ (8 - 0)) = 0 := by unfold acc; rw [Nat.sub_zero, Nat.div_eq_of_lt hx]; simp
theorem acc_false {d x : Nat} (hd : d < 8) (h : x.testBit (8 - 1 - d) = false) : acc 8 d (x / 2 ^ (8 - d)) = acc 8 (d + 1) (x / 2 ^ (8 - (d + 1))) := by
  have := pre_step x (8 - (d + 1))
  rw [show 8 - (d + 1) + 1 = 8 - d by omega, show x.testBit (8 - (d + 1)) = false by rw [← h]; congr 1; omega] at this
  rw [this, acc_zero hd]; rfl
theorem acc_true {d x : Nat} (hd : d < 8) (hx : x < 2 ^ 8) (h : x.testBit (8 - 1 - d) = true) : bits .or .u8 (acc 8 d (x / 2 ^ (8 - d))) (bitv 8 d) = acc 8 (d + 1) (x / 2 ^ (8 - (d + 1))) := by
  have := pre_step x (8 - (d + 1))
  rw [show 8 - (d + 1) + 1 = 8 - d by omega, show x.testBit (8 - (d + 1)) = true by rw [← h]; congr 1; omega] at this
  rw [this, or_bit hd (pre_lt (by omega) hx)]; rfl
set_option maxHeartbeats 400000 in
theorem at_no {w : World} {b g : Nat} {l : List Nat} (hs : SeqAt 8 w b g l) (i : Int) (h : i < 0 ∨ (l.length : Int) ≤ i) :
    Calls Tryz.prog 110 #[.pointer (some ⟨b, 0, none⟩), .int .i64 i] w fun e w' => e = .returned (.tuple #[.int .u8 0, .int .i64 1]) ∧ Below w.heap.size w w' := by
  have h0 := hs.len
  rcases h with h | h
  · go_enter Tryz.func110, Tryz.ntmps110
    go_wp2
    go_ret2
    exact ⟨rfl, Below.refl _ _⟩
  · have h1 : ¬ i < 0 := by omega
    go_enter Tryz.func110, Tryz.ntmps110
    go_wp2
    go_ret2
    exact ⟨rfl, Below.refl _ _⟩
set_option maxHeartbeats 2000000 in
theorem at_yes {w : World} {b g : Nat} {l : List Nat} (hs : SeqAt 8 w b g l) (i x : Nat) (hx : l[i]? = some x) :
    Calls Tryz.prog 110 #[.pointer (some ⟨b, 0, none⟩), .int .i64 (i : Int)] w fun e w' => e = .returned (.tuple #[.int .u8 (x : Int), .int .i64 0]) ∧ Below w.heap.size w w' := by
  have h0 := hs.len
  have h1 := hs.levels
  have hn := hs.hn
  have hi : i < l.length := by
    have := (led_at hx hs.lt 0 (by decide)).2
    exact this
  have hxB : x < 2 ^ 8 := hs.lt x (List.mem_of_getElem? hx)
  have hi0 : ¬ (i : Int) < 0 := by omega
  have HS : Hid _ := hs
  have HX : Hid (l[i]? = some x) := hx
  clear hs hx
  go_enter Tryz.func110, Tryz.ntmps110
  go_wp2
  go_loopw [1, 6, 25] (fun si sc sd wr => ∃ d q : Nat, d ≤ 8 ∧ sd = .int .i64 d ∧ si = .int .i64 (led 8 l x d i : Int) ∧ sc = .int .u8 (acc 8 d (x / 2 ^ (8 - d))) ∧ wr = w.drewN q) (fun _ _ sd _ => 8 - (intOf sd).toNat)
  case atStart => exact ⟨0, 0, Nat.zero_le _, rfl, rfl, by rw [acc_none hxB], rfl⟩
  case round =>
    obtain ⟨d, q, hd, rfl, rfl, rfl, rfl⟩ := hrel
    by_cases hlt : d < 8
    · obtain ⟨bb, bw, ba, W, hcell, hbits⟩ := HS.out.level d hlt
      obtain ⟨hat, hle⟩ := led_at HX.out HS.out.lt d (by omega)
      have hdI : (d : Int) < 8 := by omega
      have ho := isOne_any (hbits.drewN q) (led 8 l x d i) (by omega)
      rw [bitf_at hat] at ho
      have HO : Hid (Calls Tryz.prog 132 _ _ _) := ho
      have HB : Hid _ := hbits
      clear ho hbits hat
      cases hbit : x.testBit (8 - 1 - d)
      · rw [hbit] at HO
        have HA : Hid _ := acc_false hlt hbit
        have HL : Hid _ := led_next (l := l) (t := i) false hbit.symm
        clear hbit
        go_wp2_with fail
        refine HO.out.mono ?_
        rintro e w1 ⟨rfl, rfl⟩
        go_wp2_with fail
        refine (down_any (HB.out.drewN q) false _ (by omega) _ rfl).mono ?_
        rintro e w1 ⟨rfl, q2, rfl⟩
        go_wp2
        go_roundw
        case rel => exact ⟨d + 1, q + q2, by omega, by go_num, by rw [HL.out], by rw [HA.out], rfl⟩
        case measure => simp [intOf]; omega
      · rw [hbit] at HO
        have HA : Hid _ := acc_true hlt hxB hbit
        have HL : Hid _ := led_next (l := l) (t := i) true hbit.symm
        clear hbit
        go_wp2_with fail
        refine HO.out.mono ?_
        rintro e w1 ⟨rfl, rfl⟩
        go_wp2_with fail
        refine (bitAt_any (HS.out.drewN q) d hlt).mono ?_
        rintro e w1 ⟨rfl, rfl⟩
        go_wp2_with fail
        refine (down_any (HB.out.drewN q) true _ (by omega) _ rfl).mono ?_
        rintro e w1 ⟨rfl, q2, rfl⟩
        go_wp2
        go_roundw
        case rel => exact ⟨d + 1, q + q2, by omega, by go_num, by rw [HL.out], by rw [HA.out], rfl⟩
        case measure => simp [intOf]; omega
    · obtain rfl : d = 8 := by omega
      have HA : Hid _ := acc_all x
      go_wp2
      go_ret2
      exact ⟨by rw [← HA.out]; rfl, below_drewN (Below.refl _ _) _⟩
end Go.Proofs.YtphjbbbnbmafnabGreatDoor.S8
