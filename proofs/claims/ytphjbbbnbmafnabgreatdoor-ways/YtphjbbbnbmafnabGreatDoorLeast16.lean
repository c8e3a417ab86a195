/-
  Select of a sequence of numbers of 16 bits that lies in memory as NewSeq makes it: where a number is for the k-th time, or ErrRange; nothing that was there is written. The sequence's reading is the one condition.
  Below and Least of a sequence of numbers of 16 bits that lies in memory as NewSeq makes it: how many numbers of a span are below one; the k-th least number of a span; or ErrRange; nothing that was there is written. The sequence's reading is the one condition.
  Least of a sequence of numbers of 16 bits that lies in memory as NewSeq makes it, where there is a k-th number in the span: the number of which at most k are below it, and more than k are below it or the same; nothing that was there is written. The sequence's reading is the one condition.
-/
import Derived.Test.YtphjbbbnbmafnabGreatDoorAsk16
import Derived.Test.YtphjbbbnbmafnabGreatDoorBel
namespace Go.Proofs.YtphjbbbnbmafnabGreatDoor.S16
open Go.RowKit Go.Proofs.YtphjbbbnbmafnabGreatDoor

end Go.Proofs.YtphjbbbnbmafnabGreatDoor.S16

namespace Go.Proofs.YtphjbbbnbmafnabGreatDoor.S16
open Go.RowKit Go.Proofs.YtphjbbbnbmafnabGreatDoor

theorem bel_first (s : List Nat) (c : Nat) (hc : c < 2 ^ 16) : (s.filter (fun z => decide (z / 2 ^ (16 - 0) < c / 2 ^ (16 - 0)))).length = 0 := by
  rw [Nat.sub_zero, Nat.div_eq_of_lt hc]
  simp
theorem bel_last (l : List Nat) (x y c : Nat) : (((l.take y).drop x).filter (fun z => decide (z / 2 ^ (16 - 16) < c / 2 ^ (16 - 16)))).length = bel l x y c := by
  unfold bel; simp
theorem bel_step {s : List Nat} {c d : Nat} (hd : d < 16) (o : Bool) (ho : c.testBit (16 - 1 - d) = o) : (s.filter (fun z => decide (z / 2 ^ (16 - (d + 1)) < c / 2 ^ (16 - (d + 1))))).length = (s.filter (fun z => decide (z / 2 ^ (16 - d) < c / 2 ^ (16 - d)))).length + (if o then ((s.filter (fun z => z / 2 ^ (16 - d) == c / 2 ^ (16 - d))).filter (fun z => z.testBit (16 - 1 - d) == false)).length else 0) := by
  have h := below_step s (c / 2 ^ (16 - d)) (16 - 1 - d) o
  rw [show 16 - 1 - d + 1 = 16 - d by omega] at h
  rw [← h, show 16 - (d + 1) = 16 - 1 - d by omega, pre_step c (16 - 1 - d), ho, show 16 - 1 - d + 1 = 16 - d by omega]

theorem bel_num {N a b m : Nat} (h : b = a + m) : Value.int .i64 ((N : Int) + ((b : Int) - (a : Int))) = .int .i64 ((N + m : Nat) : Int) := by
  congr 1
  omega
set_option maxHeartbeats 2000000 in
theorem below_no {w : World} {b g : Nat} {l : List Nat} (hs : SeqAt 16 w b g l) (c x y : Int) (h : ¬ (0 ≤ x ∧ x ≤ y ∧ y ≤ (l.length : Int))) :
    Calls Tryz.prog 119 #[.pointer (some ⟨b, 0, none⟩), .agg #[.int .i64 x, .int .i64 y], .int .u16 c] w fun e w' => e = .returned (.tuple #[.int .i64 0, .int .i64 1]) ∧ Below w.heap.size w w' := by
  have hnew : Below w.heap.size w (w.alloc (.cells #[.int .i64 x, .int .i64 y] 133)) := (Below.refl _ _).alloc (Nat.le_refl _) _
  have h0 := (hs.below hnew).len
  have HSp : Hid (∀ w2, Calls Tryz.prog 93 _ w2 _) := fun w2 => isSpan_any x y (l.length : Int) w2
  rw [decide_eq_false h] at HSp
  have HB : Hid _ := hnew
  clear hnew h
  go_enter Tryz.func119, Tryz.ntmps119
  go_wp2
  go_region_held (fun w' => w'.cell? ⟨w.heap.size, 0, none⟩ = some (.int .i64 x) ∧ w'.cell? ⟨w.heap.size, 1, none⟩ = some (.int .i64 y) ∧ w'.cell? ⟨b, 0, none⟩ = some (.int .i64 (l.length : Int))) (go_keep) (first
    | (go_at_call 93; refine (HSp.out _).mono ?_; rintro e w' ⟨rfl, hB⟩; have q0 := cell_kept hB ⟨w.heap.size, 0, none⟩ (.int .i64 x) (by simp); have q1 := cell_kept hB ⟨w.heap.size, 1, none⟩ (.int .i64 y) (by simp); have q2 := cell_kept hB ⟨b, 0, none⟩ (.int .i64 (l.length : Int)) h0))
  go_wp2
  go_ret2
  exact ⟨rfl, chain (HB.out.drew) hB⟩
set_option maxHeartbeats 4000000 in
theorem below_yes {w : World} {b g : Nat} {l : List Nat} (hs : SeqAt 16 w b g l) (c x y : Nat) (hc : c < 2 ^ 16) (hxy : x ≤ y) (hy : y ≤ l.length) :
    Calls Tryz.prog 119 #[.pointer (some ⟨b, 0, none⟩), .agg #[.int .i64 (x : Int), .int .i64 (y : Int)], .int .u16 (c : Int)] w fun e w' => e = .returned (.tuple #[.int .i64 (bel l x y c : Int), .int .i64 0]) ∧ Below w.heap.size w w' := by
  have hnew : Below w.heap.size w (w.alloc (.cells #[.int .i64 (x : Int), .int .i64 (y : Int)] 133)) := (Below.refl _ _).alloc (Nat.le_refl _) _
  have h0 := (hs.below hnew).len
  have h1 := (hs.below hnew).levels
  have hn := hs.hn
  have HSp : Hid (∀ w2, Calls Tryz.prog 93 _ w2 _) := fun w2 => isSpan_any (x : Int) (y : Int) (l.length : Int) w2
  rw [decide_eq_true (show (0 : Int) ≤ (x : Int) ∧ (x : Int) ≤ (y : Int) ∧ (y : Int) ≤ (l.length : Int) by omega)] at HSp
  have HB : Hid _ := hnew
  have HX0 : Hid _ := box2_new w (.int .i64 (x : Int)) (.int .i64 (y : Int)) 133
  have HS : Hid _ := hs
  have hsl : ((l.take y).drop x).length ≤ l.length := by simp; omega
  have HF : Hid _ := bel_first ((l.take y).drop x) c hc
  clear hnew hs
  go_enter Tryz.func119, Tryz.ntmps119
  go_wp2
  go_region_held (fun w' => w'.cell? ⟨w.heap.size, 0, none⟩ = some (.int .i64 (x : Int)) ∧ w'.cell? ⟨w.heap.size, 1, none⟩ = some (.int .i64 (y : Int)) ∧ w'.cell? ⟨b, 0, none⟩ = some (.int .i64 (l.length : Int))) (go_keep) (first
    | (go_at_call 93; refine (HSp.out _).mono ?_; rintro e w' ⟨rfl, hB⟩; have q0 := cell_kept hB ⟨w.heap.size, 0, none⟩ (.int .i64 (x : Int)) (by simp); have q1 := cell_kept hB ⟨w.heap.size, 1, none⟩ (.int .i64 (y : Int)) (by simp); have q2 := cell_kept hB ⟨b, 0, none⟩ (.int .i64 (l.length : Int)) h0))
  have hl1 := cell_kept hB ⟨b, 1, none⟩ (.slice (some ⟨g, 0, none⟩) 16 16) h1
  have hX1 := (HX0.out.drew).below hB
  have hb1 := chain (HB.out.drew) hB
  clear q0 q1 q2 hB h0 h1
  go_wp2
  go_loopw [8, 24] (fun sb sd wr => ∃ d : Nat, d ≤ 16 ∧ sd = .int .i64 d ∧ sb = .int .i64 ((((l.take y).drop x).filter (fun z => decide (z / 2 ^ (16 - d) < c / 2 ^ (16 - d)))).length : Int) ∧ Box2 wr w.heap.size (.int .i64 (led 16 l c d x : Int)) (.int .i64 (led 16 l c d y : Int)) ∧ Below w.heap.size w wr) (fun _ sd _ => 16 - (intOf sd).toNat)
  case atStart => exact ⟨0, Nat.zero_le _, rfl, by rw [HF.out]; rfl, hX1, hb1⟩
  case round =>
    clear hl1 hX1 hb1
    obtain ⟨d, hd, rfl, rfl, hX, hbel⟩ := hrel
    by_cases hlt : d < 16
    · have hs1 := HS.out.below hbel
      obtain ⟨bb, bw, ba, W, hcell, hbits⟩ := hs1.level d hlt
      have hll := led_le c hc hs1.lt hxy hy d (by omega)
      have hdI : (d : Int) < 16 := by omega
      have hA := and_bit c d hc hlt
      have k0 := hX.c0
      have k1 := hX.c1
      have f0 := hX.f0
      have f1 := hX.f1
      have HX : Hid _ := hX
      have HBe : Hid _ := hbel
      have HS1 : Hid _ := hs1
      have HB1 : Hid _ := hbits
      have hsf := List.length_filter_le (fun z => decide (z / 2 ^ (16 - d) < c / 2 ^ (16 - d))) ((l.take y).drop x)
      generalize hN : (((l.take y).drop x).filter (fun z => decide (z / 2 ^ (16 - d) < c / 2 ^ (16 - d)))).length = N0 at hsf ⊢
      have HN : Hid (_ = N0) := hN
      clear hX hbel hs1 hbits hN
      cases hbit : c.testBit (16 - 1 - d)
      · rw [hbit] at hA
        have HBS : Hid _ := bel_step (s := (l.take y).drop x) hlt false hbit
        have HBI : Hid _ := hbit
        clear hbit
        go_wp2_with fail
        refine (bitAt_any HS1.out d hlt).mono ?_
        rintro e w1 ⟨rfl, rfl⟩
        go_wp2_with fail
        refine (narrow_any HB1.out false _ _ (by omega) (by omega) _ _ rfl rfl).mono ?_
        rintro e w1 ⟨rfl, hB⟩
        have hX2 := HX.out.below hB
        have j0 := hX2.c0
        have j1 := hX2.c1
        have g0 := hX2.f0
        have g1 := hX2.f1
        go_wp2
        go_roundw
        case rel => exact ⟨d + 1, by omega, by go_num, by rw [HBS.out, HN.out]; rfl, box_next HBI.out.symm (hX2.set _ _), own2 (chain HBe.out hB) (Nat.le_refl _) _ _⟩
        case measure => simp [intOf]; omega
      · rw [hbit] at hA
        have hbs := bel_step (s := (l.take y).drop x) hlt true hbit
        rw [if_pos rfl] at hbs
        have HBI : Hid _ := hbit
        have hz := seg_len (seg_down (16 - 1 - d) (seg_led c (seg_of l x y hxy hy) hc HS1.out.lt d (by omega)) false)
        rw [lev_length, part_length, lev_length] at hz
        simp only [Nat.reduceSub] at hz hbs
        obtain ⟨hz1, hz2⟩ := hz
        have hz3 := Nat.le_trans (Nat.le.intro hz1.symm) hz2
        have HZ : Hid _ := hz1
        have HBS : Hid _ := hbs
        clear hbit hz1 hbs
        go_wp2_with fail
        refine (bitAt_any HS1.out d hlt).mono ?_
        rintro e w1 ⟨rfl, rfl⟩
        go_wp2_with fail
        refine (narrow_any HB1.out false _ _ (by omega) (by omega) _ _ rfl rfl).mono ?_
        rintro e w1 ⟨rfl, hB⟩
        go_wp2_with fail
        refine (long_any _ _ (by omega) (by omega) _).mono ?_
        rintro e w2 ⟨rfl, hB2⟩
        have hB3 := chain hB hB2
        have hX2 := HX.out.below hB3
        have j0 := hX2.c0
        have j1 := hX2.c1
        go_wp2_with fail
        refine (narrow_any (HB1.out.below hB3) true _ _ (by omega) (by omega) _ _ rfl rfl).mono ?_
        rintro e w3 ⟨rfl, hB4⟩
        have hX3 := hX2.below hB4
        have i0 := hX3.c0
        have i1 := hX3.c1
        have g0 := hX3.f0
        have g1 := hX3.f1
        go_wp2
        go_roundw
        case rel => exact ⟨d + 1, by omega, by go_num, by simp only [HBS.out, HN.out]; exact bel_num HZ.out, box_next HBI.out.symm (hX3.set _ _), own2 (chain (chain HBe.out hB3) hB4) (Nat.le_refl _) _ _⟩
        case measure => simp [intOf]; omega
    · obtain rfl : d = 16 := by omega
      have HL : Hid _ := bel_last l x y c
      rw [HL.out]
      go_wp2
      go_ret2
      exact ⟨rfl, hbel⟩

/-! ### Least -/
end Go.Proofs.YtphjbbbnbmafnabGreatDoor.S16

namespace Go.Proofs.YtphjbbbnbmafnabGreatDoor.S16
open Go.RowKit Go.Proofs.YtphjbbbnbmafnabGreatDoor

/-- what is left of a span at level d: those that begin with the bits P -/
structure Left (l s : List Nat) (k d P kd A Z : Nat) : Prop where
  seg : Seg (lev 16 l d) A Z (s.filter (fun z => z / 2 ^ (16 - d) == P))
  sum : (s.filter (fun z => decide (z / 2 ^ (16 - d) < P))).length + kd = k
  has : kd < (s.filter (fun z => z / 2 ^ (16 - d) == P)).length
  lt : P < 2 ^ d
theorem Left.len {l s : List Nat} {k d P kd A Z : Nat} (h : Left l s k d P kd A Z) : A ≤ Z ∧ Z ≤ l.length := by
  have := seg_len h.seg
  rw [lev_length] at this
  omega
theorem left_first {l : List Nat} {k x y : Nat} (hl : ∀ z ∈ l, z < 2 ^ 16) (hxy : x ≤ y) (hy : y ≤ l.length) (hk : k < y - x) : Left l ((l.take y).drop x) k 0 0 k x y := by
  have e : ((l.take y).drop x).filter (fun z => z / 2 ^ (16 - 0) == 0) = (l.take y).drop x := by
    rw [List.filter_eq_self]
    intro z hz
    rw [Nat.sub_zero, Nat.div_eq_of_lt (hl z (List.mem_of_mem_take (List.mem_of_mem_drop hz)))]; rfl
  refine ⟨?_, ?_, ?_, by decide⟩
  · rw [e]; exact seg_of l x y hxy hy
  · simp
  · rw [e]; simp; omega
/-- the zeros of what is left -/
theorem left_zeros {l s : List Nat} {k d P kd A Z : Nat} (h : Left l s k d P kd A Z) :
    down (bitf (lev 16 l d) (16 - 1 - d)) l.length false Z = down (bitf (lev 16 l d) (16 - 1 - d)) l.length false A + ((s.filter (fun z => z / 2 ^ (16 - d) == P)).filter (fun z => z.testBit (16 - 1 - d) == false)).length ∧ down (bitf (lev 16 l d) (16 - 1 - d)) l.length false Z ≤ l.length := by
  have := seg_len (seg_down (16 - 1 - d) h.seg false)
  rw [lev_length, part_length, lev_length] at this
  exact this
theorem left_next {l s : List Nat} {k d P kd A Z : Nat} (hd : d < 16) (h : Left l s k d P kd A Z) (o : Bool) (kd' : Nat)
    (ho : (o = false ∧ kd' = kd ∧ kd < ((s.filter (fun z => z / 2 ^ (16 - d) == P)).filter (fun z => z.testBit (16 - 1 - d) == false)).length) ∨
      (o = true ∧ kd = kd' + ((s.filter (fun z => z / 2 ^ (16 - d) == P)).filter (fun z => z.testBit (16 - 1 - d) == false)).length)) :
    Left l s k (d + 1) (2 * P + o.toNat) kd' (down (bitf (lev 16 l d) (16 - 1 - d)) l.length o A) (down (bitf (lev 16 l d) (16 - 1 - d)) l.length o Z) := by
  have e1 : 16 - (d + 1) = 16 - 1 - d := by omega
  have e2 : 16 - d = 16 - 1 - d + 1 := by omega
  have h1 := seg_down (16 - 1 - d) h.seg o
  have h2 := below_step s P (16 - 1 - d) o
  have h3 := filter_split (16 - 1 - d) (s.filter (fun z => z / 2 ^ (16 - d) == P))
  have h4 := h.sum
  have h5 := h.has
  have h6 := filter_step s P (16 - 1 - d) o
  rw [← e2] at h2 h6
  rw [h6, lev_length] at h1
  refine ⟨by rw [e1]; exact h1, ?_, ?_, ?_⟩
  · rw [e1, h2]
    rcases ho with ⟨rfl, rfl, _⟩ | ⟨rfl, e⟩
    · simpa using h4
    · rw [if_pos rfl]; omega
  · rw [e1, ← h6]
    rcases ho with ⟨rfl, rfl, e⟩ | ⟨rfl, e⟩
    · exact e
    · omega
  · have := h.lt
    have := Bool.toNat_le o
    rw [Nat.pow_succ]; omega
theorem left_last {l : List Nat} {k P kd A Z x y : Nat} (h : Left l ((l.take y).drop x) k 16 P kd A Z) : bel l x y P ≤ k ∧ k < bel l x y P + eqn l x y P ∧ P < 2 ^ 16 := by
  have h1 := h.sum
  have h2 := h.has
  simp only [Nat.sub_self, Nat.pow_zero, Nat.div_one] at h1 h2
  unfold bel eqn
  exact ⟨by omega, by omega, h.lt⟩
theorem acc_end (P : Nat) : acc 16 16 P = (P : Int) := by unfold acc; simp

end Go.Proofs.YtphjbbbnbmafnabGreatDoor.S16
