/-
  The document's own Least (trellisref.Least) over a list of numbers that lies in memory: it halves between the least and the greatest number of the span; what it returns, for every argument; nothing that was there is written.
-/
import Derived.Test.YtphjbbbnbmafnaaRefSeq
namespace Go.Proofs.Ytphjbbbnbmafnaa.R
open Go.RowKit Go.Proofs.Ytphjbbbnbmafnaa

theorem bel_succ (l : List Nat) (x y c : Nat) : bel l x y (c + 1) = bel l x y c + eqn l x y c := by
  unfold bel eqn
  generalize (l.take y).drop x = s
  induction s with
  | nil => rfl
  | cons z r ih =>
    simp only [List.filter_cons]
    rcases Nat.lt_trichotomy z c with h | h | h
    · have e1 : decide (z < c + 1) = true := by simp; omega
      have e2 : decide (z < c) = true := by simpa using h
      have e3 : (z == c) = false := by simp; omega
      rw [e1, e2, e3]; simp only [if_true, Bool.false_eq_true, if_false, List.length_cons]; omega
    · have e1 : decide (z < c + 1) = true := by simp; omega
      have e2 : decide (z < c) = false := by simp; omega
      have e3 : (z == c) = true := by simpa using h
      rw [e1, e2, e3]; simp only [if_true, Bool.false_eq_true, if_false, List.length_cons]; omega
    · have e1 : decide (z < c + 1) = false := by simp; omega
      have e2 : decide (z < c) = false := by simp; omega
      have e3 : (z == c) = false := by simp; omega
      rw [e1, e2, e3]; simp only [Bool.false_eq_true, if_false]; omega
/-- all from x up to k are from lo up to hi -/
def Within (l : List Nat) (x k lo hi : Nat) : Prop := ∀ z ∈ (l.take k).drop x, lo ≤ z ∧ z ≤ hi
theorem within_same (l : List Nat) (x lo hi : Nat) : Within l x x lo hi := by
  intro z hz
  rw [List.drop_eq_nil_of_le (by simp; omega)] at hz; cases hz
theorem within_next {l : List Nat} {x k lo hi z : Nat} (h : Within l x k lo hi) (hz : l[k]? = some z) (hx : x ≤ k) : Within l x (k + 1) (min lo z) (max hi z) := by
  have hlt : k < l.length := by
    rcases Nat.lt_or_ge k l.length with h | h
    · exact h
    · rw [List.getElem?_eq_none h] at hz; cases hz
  intro u hu
  rw [List.take_add_one, hz, List.drop_append_of_le_length (by simp; omega), List.mem_append] at hu
  rcases hu with hu | hu
  · have := h u hu; omega
  · simp at hu; subst hu; omega
theorem bel_low {l : List Nat} {x y lo hi : Nat} (h : Within l x y lo hi) : bel l x y lo = 0 := by
  unfold bel
  rw [List.length_eq_zero_iff, List.filter_eq_nil_iff]
  intro z hz
  have := h z hz
  simp; omega
theorem bel_high {l : List Nat} {x y lo hi : Nat} (h : Within l x y lo hi) (hxy : x ≤ y) (hy : y ≤ l.length) : bel l x y (hi + 1) = y - x := by
  unfold bel
  rw [List.filter_eq_self.2 (by intro z hz; have := h z hz; simp; omega)]
  simp; omega

set_option maxHeartbeats 1000000 in
theorem least_no {w : World} {v : Value} {l : List Nat} (h : NumsAt .i64 w v l) (hn : l.length ≤ 100000) (x y k : Int) (hs : ¬ (0 ≤ x ∧ x ≤ y ∧ y ≤ (l.length : Int)) ∨ k < 0 ∨ y - x ≤ k) :
    Calls Try.prog 62 #[v, .agg #[.int .i64 x, .int .i64 y], .int .i64 k] w fun e w' => e = .returned (.tuple #[.int .i64 0, .int .i64 1]) ∧ Below w.heap.size w w' := by
  obtain ⟨a0, cap, rfl, hd⟩ := h.open
  clear hd
  have HSp : Hid (∀ w2, Calls Try.prog 84 _ w2 _) := fun w2 => span_any x y (l.length : Int) w2
  have hnew : Below w.heap.size w (w.alloc (.cells #[.int .i64 x, .int .i64 y] 32)) := (Below.refl _ _).alloc (Nat.le_refl _) _
  have HX : Hid _ := box2_new w (.int .i64 x) (.int .i64 y) 32
  have HB : Hid _ := hnew
  clear hnew h
  by_cases hsp : 0 ≤ x ∧ x ≤ y ∧ y ≤ (l.length : Int)
  · rw [decide_eq_true hsp] at HSp
    have h' : k < 0 ∨ y - x ≤ k := by rcases hs with h | h; exact absurd hsp h; exact h
    obtain ⟨s1, s2, s3⟩ := hsp
    clear hs
    by_cases hk : k < 0
    · clear h'
      go_enter Try.func62, Try.ntmps62
      go_wp2_with fail
      refine (HSp.out _).mono ?_
      rintro e w1 ⟨rfl, hB1⟩
      go_wp2
      go_ret2
      exact ⟨rfl, chain HB.out hB1⟩
    · have hk2 : y - x ≤ k := by omega
      clear h'
      go_enter Try.func62, Try.ntmps62
      go_wp2_with fail
      refine (HSp.out _).mono ?_
      rintro e w1 ⟨rfl, hB1⟩
      have hX1 := HX.out.below hB1
      have k0 := hX1.c0
      have k1 := hX1.c1
      go_wp2
      go_ret2
      exact ⟨rfl, chain HB.out hB1⟩
  · rw [decide_eq_false hsp] at HSp
    have HN : Hid _ := hsp
    clear hsp hs
    go_enter Try.func62, Try.ntmps62
    go_wp2_with fail
    refine (HSp.out _).mono ?_
    rintro e w1 ⟨rfl, hB1⟩
    go_wp2
    go_ret2
    exact ⟨rfl, chain HB.out hB1⟩

set_option maxHeartbeats 4000000 in
theorem least_yes {w : World} {v : Value} {l : List Nat} (h : NumsAt .i64 w v l) (hn : l.length ≤ 100000) (hm : ∀ z ∈ l, z < 65536) (x y k : Nat) (hxy : x ≤ y) (hy : y ≤ l.length) (hk : k < y - x) :
    Calls Try.prog 62 #[v, .agg #[.int .i64 (x : Int), .int .i64 (y : Int)], .int .i64 (k : Int)] w fun e w' => ∃ c : Nat, e = .returned (.tuple #[.int .i64 (c : Int), .int .i64 0]) ∧ (bel l x y c ≤ k ∧ k < bel l x y c + eqn l x y c) ∧ Below w.heap.size w w' := by
  obtain ⟨a0, cap, rfl, hd⟩ := h.open
  have HV : Hid (NumsAt .i64 w (.slice a0 l.length cap) l) := h
  have HL : Hid _ := hd
  have HM : Hid _ := hm
  clear hd h hm
  have HSp : Hid (∀ w2, Calls Try.prog 84 _ w2 _) := fun w2 => span_any (x : Int) (y : Int) (l.length : Int) w2
  rw [decide_eq_true (show (0 : Int) ≤ (x : Int) ∧ (x : Int) ≤ (y : Int) ∧ (y : Int) ≤ (l.length : Int) by omega)] at HSp
  have hnew : Below w.heap.size w (w.alloc (.cells #[.int .i64 (x : Int), .int .i64 (y : Int)] 32)) := (Below.refl _ _).alloc (Nat.le_refl _) _
  have HX : Hid _ := box2_new w (.int .i64 (x : Int)) (.int .i64 (y : Int)) 32
  have HB : Hid _ := hnew
  clear hnew
  obtain ⟨z0, hz0⟩ := some_at' (show x < l.length by omega)
  obtain ⟨g, off, rfl, hc0⟩ := HL.out x z0 hz0
  have hz0m := HM.out z0 (List.mem_of_getElem? hz0)
  have hk1 : ¬ (y : Int) - (x : Int) ≤ (k : Int) := by omega
  have hk0 : ¬ (k : Int) < 0 := by omega
  have hxl : (x : Int) < (l.length : Int) := by omega
  clear hz0
  go_enter Try.func62, Try.ntmps62
  go_wp2_with fail
  refine (HSp.out _).mono ?_
  rintro e w1 ⟨rfl, hB1⟩
  have hX1 := HX.out.below hB1
  have k0 := hX1.c0
  have k1 := hX1.c1
  have HB1 : Hid _ := chain HB.out hB1
  have HX1 : Hid _ := hX1
  have hc1 := cell_kept HB1.out _ _ hc0
  clear hX1 hB1 hc0
  go_wp2
  go_loop [9, 10, 11] (fun sl sh si => ∃ i lo hi : Nat, x ≤ i ∧ i ≤ y ∧ si = .int .i64 i ∧ sl = .int .i64 (lo : Int) ∧ sh = .int .i64 (hi : Int) ∧ lo ≤ hi ∧ hi < 65536 ∧ Hid (Within l x i lo hi)) (fun _ _ si => y - (intOf si).toNat)
  case atStart => exact ⟨x, z0, z0, Nat.le_refl _, hxy, rfl, rfl, rfl, Nat.le_refl _, hz0m, within_same _ _ _ _⟩
  case round =>
    obtain ⟨i, lo, hi, hi1, hi2, rfl, rfl, rfl, hlh, hh, HI⟩ := hrel
    by_cases hlt : i < y
    · obtain ⟨z, hz⟩ := some_at' (show i < l.length by omega)
      obtain ⟨g', off', hgo, hcell0⟩ := HL.out i z hz
      simp only [Option.some.injEq, Addr.mk.injEq, and_true] at hgo
      obtain ⟨rfl, rfl⟩ := hgo
      have hcell := cell_kept HB1.out _ _ hcell0
      have hzm := HM.out z (List.mem_of_getElem? hz)
      have hil : (i : Int) < (l.length : Int) := by omega
      have hiy : (i : Int) < (y : Int) := by omega
      have HN : Hid _ := within_next HI.out hz hi1
      clear hz hcell0
      go_wp2
      go_round
      case rel => exact ⟨i + 1, min lo z, max hi z, by omega, by omega, by go_num, by congr 1; split <;> omega, by congr 1; split <;> omega, by omega, by omega, HN.out⟩
      case measure => simp [intOf]; omega
    · obtain rfl : y = i := by omega
      have hb0 := bel_low HI.out
      have hb1 := bel_high HI.out hxy hy
      have HLo : Hid (bel l x y lo ≤ k ∧ k < bel l x y (hi + 1)) := ⟨by omega, by omega⟩
      clear hb0 hb1 HI
      go_wp2
      go_loopw [9, 10] (fun sl sh wr => ∃ lo hi : Nat, sl = .int .i64 (lo : Int) ∧ sh = .int .i64 (hi : Int) ∧ lo ≤ hi ∧ hi < 65536 ∧ Hid (bel l x y lo ≤ k ∧ k < bel l x y (hi + 1)) ∧ Below w1.heap.size w1 wr) (fun sl sh _ => (intOf sh - intOf sl).toNat)
      case atStart => exact ⟨lo, hi, rfl, rfl, hlh, hh, HLo, Below.refl _ _⟩
      case round =>
        clear HLo hlh hh
        obtain ⟨lo, hi, rfl, rfl, hlh, hh, HLo, hbel⟩ := hrel
        by_cases hlt2 : lo < hi
        · have hmid : (lo : Int) + ((hi : Int) - (lo : Int)) / 2 = ((lo + (hi - lo) / 2 : Nat) : Int) := by omega
          have hX2 := HX1.out.below hbel
          have j0 := hX2.c0
          have j1 := hX2.c1
          have hbl := bel_le l x y (lo + (hi - lo) / 2 + 1)
          have HBW : Hid (∀ C : Int, C = ((lo + (hi - lo) / 2 + 1 : Nat) : Int) → Calls Try.prog 60 _ wr _) := fun C hC => below_yes ((HV.out.below HB1.out).below hbel) hn x y (lo + (hi - lo) / 2 + 1) hxy hy (x : Int) (y : Int) C rfl rfl hC
          have HBe : Hid _ := hbel
          have HMid : Hid _ := hmid
          clear hX2 hbel hmid
          by_cases hgt : k < bel l x y (lo + (hi - lo) / 2 + 1)
          · have hgtI : (k : Int) < (bel l x y (lo + (hi - lo) / 2 + 1) : Int) := by omega
            go_wp2_with fail
            refine (HBW.out _ (by omega)).mono ?_
            rintro e w2 ⟨rfl, hB2⟩
            go_wp2
            go_roundw
            case rel => exact ⟨lo, lo + (hi - lo) / 2, rfl, by rw [← HMid.out], by omega, by omega, ⟨HLo.out.1, hgt⟩, chain HBe.out hB2⟩
            case measure => simp [intOf]; omega
          · have hgtI : ¬ (k : Int) < (bel l x y (lo + (hi - lo) / 2 + 1) : Int) := by omega
            go_wp2_with fail
            refine (HBW.out _ (by omega)).mono ?_
            rintro e w2 ⟨rfl, hB2⟩
            go_wp2
            go_roundw
            case rel => exact ⟨lo + (hi - lo) / 2 + 1, hi, by rw [show ((lo + (hi - lo) / 2 + 1 : Nat) : Int) = (lo : Int) + ((hi : Int) - (lo : Int)) / 2 + 1 by omega], rfl, by omega, by omega, ⟨by omega, HLo.out.2⟩, chain HBe.out hB2⟩
            case measure => simp [intOf]; omega
        · obtain rfl : hi = lo := by omega
          have hfin := HLo.out
          rw [bel_succ] at hfin
          have HF : Hid _ := hfin
          clear hfin HLo
          go_wp2
          go_ret2
          exact ⟨hi, rfl, HF.out, chain HB1.out hbel⟩
end Go.Proofs.Ytphjbbbnbmafnaa.R
