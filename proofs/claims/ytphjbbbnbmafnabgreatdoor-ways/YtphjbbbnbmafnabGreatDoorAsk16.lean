/-
  The questions to a sequence of numbers of 16 bits that lies in memory as NewSeq makes it: Len, At, Rank, Select, Below, Least answer what the document says of its list, or ErrRange; nothing that was there is written. The sequence's reading is the one condition.
-/
import Derived.Test.YtphjbbbnbmafnabGreatDoorBel
namespace Go.Proofs.YtphjbbbnbmafnabGreatDoor.S16
open Go.RowKit Go.Proofs.YtphjbbbnbmafnabGreatDoor

theorem and_bit (c d : Nat) (hc : c < 2 ^ 16) (hd : d < 16) : (bits .and .u16 (c : Int) (bitv 16 d) != 0) = c.testBit (16 - 1 - d) := by
  unfold bitv
  rw [u16_and_nat c _ hc (Nat.pow_lt_pow_right (by decide) (show 16 - 1 - d < 16 by omega))]
  exact bit_ne c _
set_option maxHeartbeats 400000 in
theorem bitAt_any {w : World} {b g : Nat} {l : List Nat} (hs : SeqAt 16 w b g l) (d : Nat) (hd : d < 16) :
    Calls Tryz.prog 80 #[.pointer (some ⟨b, 0, none⟩), .int .i64 (d : Int)] w fun e w' => e = .returned (.int .u16 (bitv 16 d)) ∧ w' = w := by
  have h1 := hs.levels
  go_enter Tryz.func80, Tryz.ntmps80
  go_wp2
  go_ret
  refine ⟨ret1_int ?_, rfl⟩
  have hp : 2 ^ (16 - 1 - d) < 2 ^ 16 := Nat.pow_lt_pow_right (by decide) (by omega)
  unfold bitv
  rw [← two_pow_int]
  try rw [IntKind.wrap_u16]
  simp only [Nat.reducePow, Nat.reduceSub] at hp ⊢
  generalize 2 ^ _ = m at *
  omega
theorem led_next {l : List Nat} {c d t : Nat} (o : Bool) (ho : o = c.testBit (16 - 1 - d)) : down (bitf (lev 16 l d) (16 - 1 - d)) l.length o (led 16 l c d t) = led 16 l c (d + 1) t := by
  rw [ho]; rfl
theorem box_next {w : World} {X : Nat} {l : List Nat} {c d x y : Nat} {o : Bool} (ho : o = c.testBit (16 - 1 - d))
    (h : Box2 w X (.int .i64 (down (bitf (lev 16 l d) (16 - 1 - d)) l.length o (led 16 l c d x) : Int)) (.int .i64 (down (bitf (lev 16 l d) (16 - 1 - d)) l.length o (led 16 l c d y) : Int))) :
    Box2 w X (.int .i64 (led 16 l c (d + 1) x : Int)) (.int .i64 (led 16 l c (d + 1) y : Int)) := by
  rw [led_next o ho, led_next o ho] at h; exact h
set_option maxHeartbeats 2000000 in
/-! ### At -/
theorem or_bit {d P : Nat} (hd : d < 16) (hP : P < 2 ^ d) : bits .or .u16 (acc 16 d P) (bitv 16 d) = acc 16 (d + 1) (2 * P + 1) := by
  unfold acc bitv
  rw [u16_or_nat _ _ (acc_lt (by omega) hP) (Nat.pow_lt_pow_right (by decide) (show 16 - 1 - d < 16 by omega)), acc_one hd]
theorem acc_all (x : Nat) : acc 16 16 (x / 2 ^ (16 - 16)) = (x : Int) := by unfold acc; simp
theorem acc_none {x : Nat} (hx : x < 2 ^ 16) : acc 16 0 (x / 2 ^ (16 - 0)) = 0 := by unfold acc; rw [Nat.sub_zero, Nat.div_eq_of_lt hx]; simp
theorem acc_false {d x : Nat} (hd : d < 16) (h : x.testBit (16 - 1 - d) = false) : acc 16 d (x / 2 ^ (16 - d)) = acc 16 (d + 1) (x / 2 ^ (16 - (d + 1))) := by
  have := pre_step x (16 - (d + 1))
  rw [show 16 - (d + 1) + 1 = 16 - d by omega, show x.testBit (16 - (d + 1)) = false by rw [← h]; congr 1; omega] at this
  rw [this, acc_zero hd]; rfl
theorem acc_true {d x : Nat} (hd : d < 16) (hx : x < 2 ^ 16) (h : x.testBit (16 - 1 - d) = true) : bits .or .u16 (acc 16 d (x / 2 ^ (16 - d))) (bitv 16 d) = acc 16 (d + 1) (x / 2 ^ (16 - (d + 1))) := by
  have := pre_step x (16 - (d + 1))
  rw [show 16 - (d + 1) + 1 = 16 - d by omega, show x.testBit (16 - (d + 1)) = true by rw [← h]; congr 1; omega] at this
  rw [this, or_bit hd (pre_lt (by omega) hx)]; rfl
set_option maxHeartbeats 400000 in
theorem at_no {w : World} {b g : Nat} {l : List Nat} (hs : SeqAt 16 w b g l) (i : Int) (h : i < 0 ∨ (l.length : Int) ≤ i) :
    Calls Tryz.prog 111 #[.pointer (some ⟨b, 0, none⟩), .int .i64 i] w fun e w' => e = .returned (.tuple #[.int .u16 0, .int .i64 1]) ∧ Below w.heap.size w w' := by
  have h0 := hs.len
  rcases h with h | h
  · go_enter Tryz.func111, Tryz.ntmps111
    go_wp2
    go_ret2
    exact ⟨rfl, Below.refl _ _⟩
  · have h1 : ¬ i < 0 := by omega
    go_enter Tryz.func111, Tryz.ntmps111
    go_wp2
    go_ret2
    exact ⟨rfl, Below.refl _ _⟩
set_option maxHeartbeats 2000000 in
theorem at_yes {w : World} {b g : Nat} {l : List Nat} (hs : SeqAt 16 w b g l) (i x : Nat) (hx : l[i]? = some x) :
    Calls Tryz.prog 111 #[.pointer (some ⟨b, 0, none⟩), .int .i64 (i : Int)] w fun e w' => e = .returned (.tuple #[.int .u16 (x : Int), .int .i64 0]) ∧ Below w.heap.size w w' := by
  have h0 := hs.len
  have h1 := hs.levels
  have hn := hs.hn
  have hi : i < l.length := by
    have := (led_at hx hs.lt 0 (by decide)).2
    exact this
  have hxB : x < 2 ^ 16 := hs.lt x (List.mem_of_getElem? hx)
  have hi0 : ¬ (i : Int) < 0 := by omega
  have HS : Hid _ := hs
  have HX : Hid (l[i]? = some x) := hx
  clear hs hx
  go_enter Tryz.func111, Tryz.ntmps111
  go_wp2
  go_loopw [1, 6, 25] (fun si sc sd wr => ∃ d q : Nat, d ≤ 16 ∧ sd = .int .i64 d ∧ si = .int .i64 (led 16 l x d i : Int) ∧ sc = .int .u16 (acc 16 d (x / 2 ^ (16 - d))) ∧ wr = w.drewN q) (fun _ _ sd _ => 16 - (intOf sd).toNat)
  case atStart => exact ⟨0, 0, Nat.zero_le _, rfl, rfl, by rw [acc_none hxB], rfl⟩
  case round =>
    obtain ⟨d, q, hd, rfl, rfl, rfl, rfl⟩ := hrel
    by_cases hlt : d < 16
    · obtain ⟨bb, bw, ba, W, hcell, hbits⟩ := HS.out.level d hlt
      obtain ⟨hat, hle⟩ := led_at HX.out HS.out.lt d (by omega)
      have hdI : (d : Int) < 16 := by omega
      have ho := isOne_any (hbits.drewN q) (led 16 l x d i) (by omega)
      rw [bitf_at hat] at ho
      have HO : Hid (Calls Tryz.prog 132 _ _ _) := ho
      have HB : Hid _ := hbits
      clear ho hbits hat
      cases hbit : x.testBit (16 - 1 - d)
      · rw [hbit] at HO
        have HA : Hid _ := acc_false hlt hbit
        have HL : Hid _ := led_next (l := l) (t := i) false hbit.symm
        clear hbit
        go_wp2_with fail
        refine HO.out.mono ?_
        rintro e w1 ⟨rfl, rfl⟩
        go_wp2_with fail
        refine (down_any (HB.out.drewN q) false _ (by omega) _ rfl).mono ?_
        rintro e w1 ⟨rfl, q2, rfl⟩
        go_wp2
        go_roundw
        case rel => exact ⟨d + 1, q + q2, by omega, by go_num, by rw [HL.out], by rw [HA.out], rfl⟩
        case measure => simp [intOf]; omega
      · rw [hbit] at HO
        have HA : Hid _ := acc_true hlt hxB hbit
        have HL : Hid _ := led_next (l := l) (t := i) true hbit.symm
        clear hbit
        go_wp2_with fail
        refine HO.out.mono ?_
        rintro e w1 ⟨rfl, rfl⟩
        go_wp2_with fail
        refine (bitAt_any (HS.out.drewN q) d hlt).mono ?_
        rintro e w1 ⟨rfl, rfl⟩
        go_wp2_with fail
        refine (down_any (HB.out.drewN q) true _ (by omega) _ rfl).mono ?_
        rintro e w1 ⟨rfl, q2, rfl⟩
        go_wp2
        go_roundw
        case rel => exact ⟨d + 1, q + q2, by omega, by go_num, by rw [HL.out], by rw [HA.out], rfl⟩
        case measure => simp [intOf]; omega
    · obtain rfl : d = 16 := by omega
      have HA : Hid _ := acc_all x
      go_wp2
      go_ret2
      exact ⟨by rw [← HA.out]; rfl, below_drewN (Below.refl _ _) _⟩
end Go.Proofs.YtphjbbbnbmafnabGreatDoor.S16
