/-
  The laws' expression: of raw numbers, a text that is an expression, of at most 60 bytes.
-/
import Derived.Test.YtphjbbbnbmafnabGreatDoorWKp
namespace Go.Proofs.YtphjbbbnbmafnabGreatDoor.G
open Go.RowKit Go.Shelf

theorem grow_byte {s : ByteArray} {b : UInt8} {l : List Nat} (h : codes s = l) : codes (s ++ ⟨#[b]⟩) = l ++ [b.toNat] := by
  rw [codes_app, h]; rfl
theorem size_byte (s : ByteArray) (b : UInt8) : (s ++ (⟨#[b]⟩ : ByteArray)).size = s.size + 1 := by
  rw [ByteArray.size_append]; rfl
theorem div9 {x : Int} (h : -9223372036854775808 ≤ x ∧ x ≤ 9223372036854775807) : -9223372036854775808 ≤ x.tdiv 9 ∧ x.tdiv 9 ≤ 9223372036854775807 := by
  rcases Int.le_total 0 x with h0 | h0
  · rw [Int.tdiv_eq_ediv_of_nonneg h0]; omega
  · have e : x.tdiv 9 = -((-x).tdiv 9) := by rw [Int.neg_tdiv, Int.neg_neg]
    rw [e, Int.tdiv_eq_ediv_of_nonneg (by omega)]; omega
set_option maxRecDepth 100000 in
set_option maxHeartbeats 8000000 in
theorem expr_any (a0 : Option Addr) (len cap : Nat) (R : Nat → Int) (w : World) (hr : RawAt w a0 len R) :
    Calls Tryz.prog 9 #[.slice a0 len cap] w fun e w' => ∃ s t, e = .returned (.string s) ∧ s.size ≤ 60 ∧ RxM.Whole 4 (codes s) t ∧ Below w.heap.size w w' := by
  obtain ⟨hrow, hR⟩ := hr
  have HRow : Hid _ := hrow
  have HR : Hid _ := hR
  clear hrow hR
  go_enter Tryz.func9, Tryz.ntmps9
  go_wp2
  go_loopw [3, 4, 5, 6] (fun s3 s4 s5 s6 wr => ∃ (i d : Nat) (am : Bool) (s : ByteArray), s3 = .string s ∧ s4 = .int .i64 (d : Int) ∧ s5 = .bool am ∧ s6 = .int .i64 (i : Int) ∧ i ≤ 50 ∧ d ≤ 9 ∧ s.size ≤ i ∧ Hid (RxM.Grow 4 (codes s) d am ∧ Below w.heap.size w wr)) (fun _ _ _ s6 _ => 50 - (intOf s6).toNat)
  case atStart => exact ⟨0, 0, false, ⟨#[]⟩, rfl, rfl, rfl, rfl, by omega, by omega, Nat.le_refl _, RxM.grow_start, Below.refl _ _⟩
  case round =>
    obtain ⟨i, d, am, s, rfl, rfl, rfl, rfl, hi, hd, hs, HI⟩ := hrel
    by_cases hgo : i < len ∧ i < 50
    · obtain ⟨hl, h5⟩ := hgo
      have hlI : (i : Int) < (len : Int) := by omega
      have h5I : (i : Int) < 50 := by omega
      rcases HRow.out with h0 | ⟨b, off, rfl, hc⟩
      · omega
      have c0 := cell_kept HI.out.2 _ _ (hc i hl)
      have e0 := HR.out i hl
      generalize R i = x at c0 e0
      have hp := pk_lt x 9 (by decide)
      have hpf := fun W => pick_fn x 9 e0 (by decide) (by decide) 9 rfl W
      obtain ⟨c, hcc⟩ : ∃ c, c = pk x 9 := ⟨_, rfl⟩
      rw [← hcc] at hp
      simp only [← hcc] at hpf
      clear hcc hc
      have HG : Hid (RxM.Grow 4 (codes s) d am ∧ Below w.heap.size w wr) := HI.out
      have hsz : s.size ≤ 50 := by omega
      clear HI
      have h9 : (c = 0 ∨ c = 1 ∨ c = 2) ∨ c = 3 ∨ c = 4 ∨ (c = 5 ∨ c = 6) ∨ c = 7 ∨ c = 8 := by omega
      rcases h9 with (rfl | rfl | rfl) | rfl | rfl | (rfl | rfl) | rfl | rfl
      iterate 3
        · have HP : Hid (∀ W, Calls Tryz.prog 8 #[.int .i64 x, .int .i64 9] W _) := hpf
          have HL : Hid (∀ W, Calls Tryz.prog 14 #[.int .i64 (x.tdiv 9)] W _) := fun W => letter_any (x.tdiv 9) (div9 e0) W
          have hpl := pk_lt (x.tdiv 9) 4 (by decide)
          obtain ⟨k, hk⟩ : ∃ k, k = pk (x.tdiv 9) 4 := ⟨_, rfl⟩
          rw [← hk] at HL hpl
          clear hk hpf
          go_wp2_with fail
          refine (Calls.mono (HP.out wr) ?_)
          rintro e w1 ⟨rfl, rfl⟩
          go_wp2_with fail
          refine (Calls.mono (HL.out _) ?_)
          rintro e w2 ⟨rfl, hB2⟩
          have HN : Hid (RxM.Grow 4 (codes (s ++ ⟨#[lby k]⟩)) d true ∧ Below w.heap.size w w2) := (⟨by
            rw [grow_byte rfl, lby_nat hpl]
            exact RxM.grow_letter HG.out.1 hpl (by decide), chain HG.out.2 hB2⟩ : _ ∧ _)
          have hs2 := size_byte s (lby k)
          clear hB2
          go_wp2
          go_roundw
          case rel => exact ⟨i + 1, d, true, _, rfl, rfl, rfl, by go_num, by omega, hd, by omega, HN.out⟩
          case measure => simp [intOf]; omega
      · have HP : Hid (∀ W, Calls Tryz.prog 8 #[.int .i64 x, .int .i64 9] W _) := hpf
        have HN : Hid (RxM.Grow 4 (codes (s ++ ⟨#[46]⟩)) d true ∧ Below w.heap.size w wr) := (⟨by rw [grow_byte rfl]; exact RxM.grow_point HG.out.1, HG.out.2⟩ : _ ∧ _)
        have hs2 := size_byte s 46
        clear hpf
        go_wp2_with fail
        refine (Calls.mono (HP.out wr) ?_)
        rintro e w1 ⟨rfl, rfl⟩
        go_wp2
        go_roundw
        case rel => exact ⟨i + 1, d, true, _, rfl, by first | rfl | go_num, rfl, by go_num, by omega, by omega, by omega, HN.out⟩
        case measure => simp [intOf]; omega
      · have HP : Hid (∀ W, Calls Tryz.prog 8 #[.int .i64 x, .int .i64 9] W _) := hpf
        have HN : Hid (RxM.Grow 4 (codes (s ++ ⟨#[124]⟩)) d false ∧ Below w.heap.size w wr) := (⟨by rw [grow_byte rfl]; exact RxM.grow_bar HG.out.1, HG.out.2⟩ : _ ∧ _)
        have hs2 := size_byte s 124
        clear hpf
        go_wp2_with fail
        refine (Calls.mono (HP.out wr) ?_)
        rintro e w1 ⟨rfl, rfl⟩
        go_wp2
        go_roundw
        case rel => exact ⟨i + 1, d, false, _, rfl, by first | rfl | go_num, rfl, by go_num, by omega, by omega, by omega, HN.out⟩
        case measure => simp [intOf]; omega
      iterate 2
        · cases am with
          | true =>
            have HP : Hid (∀ W, Calls Tryz.prog 8 #[.int .i64 x, .int .i64 9] W _) := hpf
            have HN : Hid (RxM.Grow 4 (codes (s ++ ⟨#[42]⟩)) d true ∧ Below w.heap.size w wr) := (⟨by rw [grow_byte rfl]; exact RxM.grow_star HG.out.1, HG.out.2⟩ : _ ∧ _)
            have hs2 := size_byte s 42
            clear hpf
            go_wp2_with fail
            refine (Calls.mono (HP.out wr) ?_)
            rintro e w1 ⟨rfl, rfl⟩
            go_wp2
            go_roundw
            case rel => exact ⟨i + 1, d, true, _, rfl, by first | rfl | go_num, rfl, by go_num, by omega, by omega, by omega, HN.out⟩
            case measure => simp [intOf]; omega
          | false =>
            have HP : Hid (∀ W, Calls Tryz.prog 8 #[.int .i64 x, .int .i64 9] W _) := hpf
            have HN : Hid (RxM.Grow 4 (codes s) d false ∧ Below w.heap.size w wr) := HG.out
            clear hpf
            go_wp2_with fail
            refine (Calls.mono (HP.out wr) ?_)
            rintro e w1 ⟨rfl, rfl⟩
            go_wp2
            go_roundw
            case rel => exact ⟨i + 1, d, false, _, rfl, by first | rfl | go_num, rfl, by go_num, by omega, by omega, by omega, HN.out⟩
            case measure => simp [intOf]; omega
      · by_cases h7 : d < 9
        · have HP : Hid (∀ W, Calls Tryz.prog 8 #[.int .i64 x, .int .i64 9] W _) := hpf
          have h7I : (d : Int) < 9 := by omega
          have HN : Hid (RxM.Grow 4 (codes (s ++ ⟨#[40]⟩)) (d + 1) false ∧ Below w.heap.size w wr) := (⟨by rw [grow_byte rfl]; exact RxM.grow_open HG.out.1, HG.out.2⟩ : _ ∧ _)
          have hs2 := size_byte s 40
          clear hpf
          go_wp2_with fail
          refine (Calls.mono (HP.out wr) ?_)
          rintro e w1 ⟨rfl, rfl⟩
          go_wp2
          go_roundw
          case rel => exact ⟨i + 1, d + 1, false, _, rfl, by first | rfl | go_num, rfl, by go_num, by omega, by omega, by omega, HN.out⟩
          case measure => simp [intOf]; omega
        · have HP : Hid (∀ W, Calls Tryz.prog 8 #[.int .i64 x, .int .i64 9] W _) := hpf
          have h7I : ¬ (d : Int) < 9 := by omega
          have HN : Hid (RxM.Grow 4 (codes s) d am ∧ Below w.heap.size w wr) := HG.out
          clear hpf
          go_wp2_with fail
          refine (Calls.mono (HP.out wr) ?_)
          rintro e w1 ⟨rfl, rfl⟩
          go_wp2
          go_roundw
          case rel => exact ⟨i + 1, d, am, _, rfl, by first | rfl | go_num, rfl, by go_num, by omega, by omega, by omega, HN.out⟩
          case measure => simp [intOf]; omega
      · by_cases h8 : 0 < d
        · have HP : Hid (∀ W, Calls Tryz.prog 8 #[.int .i64 x, .int .i64 9] W _) := hpf
          obtain ⟨d2, rfl⟩ : ∃ d2, d = d2 + 1 := ⟨d - 1, by omega⟩
          have h8I : ((d2 + 1 : Nat) : Int) > 0 := by omega
          have HN : Hid (RxM.Grow 4 (codes (s ++ ⟨#[41]⟩)) d2 true ∧ Below w.heap.size w wr) := (⟨by rw [grow_byte rfl]; exact RxM.grow_close HG.out.1, HG.out.2⟩ : _ ∧ _)
          have hs2 := size_byte s 41
          clear hpf
          go_wp2_with fail
          refine (Calls.mono (HP.out wr) ?_)
          rintro e w1 ⟨rfl, rfl⟩
          go_wp2
          go_roundw
          case rel => exact ⟨i + 1, d2, true, _, rfl, by first | rfl | go_num, rfl, by go_num, by omega, by omega, by omega, HN.out⟩
          case measure => simp [intOf]; omega
        · have HP : Hid (∀ W, Calls Tryz.prog 8 #[.int .i64 x, .int .i64 9] W _) := hpf
          have h8I : ¬ (d : Int) > 0 := by omega
          have HN : Hid (RxM.Grow 4 (codes s) d am ∧ Below w.heap.size w wr) := HG.out
          clear hpf
          go_wp2_with fail
          refine (Calls.mono (HP.out wr) ?_)
          rintro e w1 ⟨rfl, rfl⟩
          go_wp2
          go_roundw
          case rel => exact ⟨i + 1, d, am, _, rfl, by first | rfl | go_num, rfl, by go_num, by omega, by omega, by omega, HN.out⟩
          case measure => simp [intOf]; omega
    · have HG : Hid (RxM.Grow 4 (codes s) d false ∧ Below w.heap.size w wr) := (⟨HI.out.1.any, HI.out.2⟩ : _ ∧ _)
      clear HI
      have hst : ¬ (i : Int) < (len : Int) ∨ ((i : Int) < (len : Int) ∧ ¬ (i : Int) < 50) := by omega
      have hsz : s.size ≤ 50 := by omega
      rcases hst with hst | ⟨hst, hst2⟩
      all_goals
        go_wp2
        go_loopw [3, 4] (fun s3 s4 wr => ∃ (d : Nat) (s : ByteArray), s3 = .string s ∧ s4 = .int .i64 (d : Int) ∧ d ≤ 9 ∧ s.size + d ≤ 59 ∧ Hid (RxM.Grow 4 (codes s) d false ∧ Below w.heap.size w wr)) (fun _ s4 _ => (intOf s4).toNat)
        case atStart => exact ⟨d, s, rfl, rfl, hd, by omega, HG.out⟩
        case round =>
          obtain ⟨d, s, rfl, rfl, hd, hs, HJ⟩ := hrel
          by_cases h8 : 0 < d
          · obtain ⟨d2, rfl⟩ : ∃ d2, d = d2 + 1 := ⟨d - 1, by omega⟩
            have h8I : ((d2 + 1 : Nat) : Int) > 0 := by omega
            have HN : Hid (RxM.Grow 4 (codes (s ++ ⟨#[41]⟩)) d2 false ∧ Below w.heap.size w wr) := (⟨by rw [grow_byte rfl]; exact (RxM.grow_close HJ.out.1).any, HJ.out.2⟩ : _ ∧ _)
            have hs2 := size_byte s 41
            clear HJ
            go_wp2
            go_roundw
            case rel => exact ⟨d2, _, rfl, by first | rfl | go_num, by omega, by omega, HN.out⟩
            case measure => first | (simp [intOf]; done) | (simp [intOf]; omega)
          · obtain rfl : d = 0 := by omega
            have h8I : ¬ ((0 : Nat) : Int) > 0 := by omega
            go_wp2
            go_ret
            exact ⟨s, rfl, by omega, HJ.out.1.whole, HJ.out.2⟩
end Go.Proofs.YtphjbbbnbmafnabGreatDoor.G
