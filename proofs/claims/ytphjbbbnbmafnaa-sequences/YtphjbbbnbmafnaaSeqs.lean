/-
  The walk of trellislaw.Sequences: over any two lists of numbers and any script it returns true, and nothing that was there is written. No condition but how such arguments lie in memory.
-/
import Derived.Test.YtphjbbbnbmafnaaOf8
import Derived.Test.YtphjbbbnbmafnaaOf16
import Derived.Test.YtphjbbbnbmafnaaLent8
import Derived.Test.YtphjbbbnbmafnaaLent16
import Derived.Deep.CutRange
namespace Go.Proofs.Ytphjbbbnbmafnaa
open Go.RowKit

/-- a script in memory: six numbers a step -/
def AskAt (w : World) (a0 : Option Addr) (len : Nat) (E : Nat → Nat → Int) : Prop :=
  len = 0 ∨ ∃ b off, a0 = some ⟨b, off, none⟩ ∧ ∀ i, i < len → ∀ c, c < 6 → w.cell? ⟨b, off + i * 6 + c, none⟩ = some (.int .i64 (E i c))
theorem AskAt.below {w w' : World} {a0 : Option Addr} {len : Nat} {E : Nat → Nat → Int} (h : AskAt w a0 len E) (hB : Below w.heap.size w w') : AskAt w' a0 len E := by
  rcases h with h | ⟨b, off, ha, hc⟩
  · exact .inl h
  · exact .inr ⟨b, off, ha, fun i hi c h6 => cell_kept hB _ _ (hc i hi c h6)⟩
theorem made8_k8 {w w' : World} {p : Value} {e : Int} {l : List Nat} (h : S8.MadeSeq w p e l) (hk : S8.Keeps w w') : S8.MadeSeq w' p e l := by
  rcases h with ⟨h1, h2, b, g, h3, h4⟩ | h
  · exact .inl ⟨h1, h2, b, g, h3, S8.seq_keeps h4 hk⟩
  · exact .inr h
theorem made8_k16 {w w' : World} {p : Value} {e : Int} {l : List Nat} (h : S8.MadeSeq w p e l) (hk : S16.Keeps w w') : S8.MadeSeq w' p e l := by
  rcases h with ⟨h1, h2, b, g, h3, h4⟩ | h
  · exact .inl ⟨h1, h2, b, g, h3, S16.seq_keeps h4 hk⟩
  · exact .inr h
theorem made16_k8 {w w' : World} {p : Value} {e : Int} {l : List Nat} (h : S16.MadeSeq w p e l) (hk : S8.Keeps w w') : S16.MadeSeq w' p e l := by
  rcases h with ⟨h1, h2, b, g, h3, h4⟩ | h
  · exact .inl ⟨h1, h2, b, g, h3, S8.seq_keeps h4 hk⟩
  · exact .inr h
theorem made16_k16 {w w' : World} {p : Value} {e : Int} {l : List Nat} (h : S16.MadeSeq w p e l) (hk : S16.Keeps w w') : S16.MadeSeq w' p e l := by
  rcases h with ⟨h1, h2, b, g, h3, h4⟩ | h
  · exact .inl ⟨h1, h2, b, g, h3, S16.seq_keeps h4 hk⟩
  · exact .inr h
/-- the document's example -/
def four : List Nat := [5, 2, 5, 9]
theorem four_lt : ∀ x ∈ four, x < 2 ^ 8 := by decide
theorem four_bel : bel four 0 4 6 = 3 := by decide
theorem four_at (w : World) (t : TypeId) : NumsAt .u8 (w.alloc (.cells #[.int .u8 5, .int .u8 2, .int .u8 5, .int .u8 9] t)) (.slice (some ⟨w.heap.size, 0, none⟩) 4 4) four := by
  refine ⟨_, 4, rfl, .inr ⟨w.heap.size, 0, rfl, fun j x hj => ?_⟩⟩
  match j, hj with
  | 0, hj => simp [four] at hj; subst hj; simp
  | 1, hj => simp [four] at hj; subst hj; simp
  | 2, hj => simp [four] at hj; subst hj; simp
  | 3, hj => simp [four] at hj; subst hj; simp
  | j + 4, hj => simp [four] at hj

set_option maxHeartbeats 16000000 in
set_option maxRecDepth 100000 in
theorem seqs_walk (a0 a1 a2 : Option Addr) (len cap len1 cap1 len2 cap2 : Nat) (N0 N1 : Nat → Int) (E : Nat → Nat → Int) (w : World)
    (h0 : RawAt w a0 len N0) (h1 : RawAt w a1 len1 N1) (h2 : AskAt w a2 len2 E) (hl0 : len * 8 ≤ 140737488351232) (hl1 : len1 * 8 ≤ 140737488351232) (_hl2 : len2 ≤ maxLen) :
    Calls Try.prog 5 #[.slice a0 len cap, .slice a1 len1 cap1, .slice a2 len2 cap2] w fun e w' => e = .returned (.bool true) ∧ Below w.heap.size w w' := by
  unfold maxLen at _hl2
  have H0 : Hid (RawAt w a0 len N0) := h0
  have H1 : Hid (RawAt w a1 len1 N1) := h1
  have H2 : Hid (AskAt w a2 len2 E) := h2
  clear h0 h1 h2
  go_enter Try.func5, Try.ntmps5
  go_wp2_with fail
  refine (S8.newseq_any (four_at w _) four_lt (by decide)).mono ?_
  rintro e w1 ⟨xb, xg, rfl, hx, hB1⟩
  have hBw1 := chain ((Below.refl w.heap.size w).alloc (Nat.le_refl _) _) hB1
  have HX : Hid _ := hx
  clear hx hB1
  go_wp2_with fail
  have hbw := S8.below_yes HX.out 6 0 4 (by decide) (by decide) (by decide)
  rw [four_bel] at hbw
  refine hbw.mono ?_
  clear hbw
  rintro e w2 ⟨rfl, hB2⟩
  have hBw2 := chain hBw1 hB2
  clear hBw1 hB2 HX
  go_wp2_with fail
  refine (cut_any a0 len cap N0 256 (by decide) (by decide) w2 (H0.out.below hBw2) hl0).mono ?_
  rintro e w3 ⟨v0, s8, rfl, hs8, hs8x, hv0, hB3⟩
  have hBw3 := chain hBw2 hB3
  subst hs8
  have HV0 : Hid (NumsAt .i64 w3 v0 s8) := hv0
  have HX0 : Hid (∀ x ∈ s8, x < 2 ^ 8) := hs8x
  clear hv0 hs8x hBw2 hB3
  go_wp2_with fail
  refine (cut_any a1 len1 cap1 N1 65536 (by decide) (by decide) w3 (H1.out.below hBw3) hl1).mono ?_
  rintro e w4 ⟨v1, s16, rfl, hs16, hs16x, hv1, hB4⟩
  have hBw4 := chain hBw3 hB4
  subst hs16
  have HV1 : Hid (NumsAt .i64 w4 v1 s16) := hv1
  have HX1 : Hid (∀ x ∈ s16, x < 2 ^ 16) := hs16x
  have HV04 : Hid (NumsAt .i64 w4 v0 s8) := NumsAt.below HV0.out hB4
  clear hv1 hs16x hBw3 hB4 HV0
  go_wp2_with fail
  refine (S8.lent_any HV04.out HX0.out hl0).mono ?_
  rintro e w5 ⟨rfl, hown8, hB5⟩
  have hBw5 := chain hBw4 hB5
  have hsz45 : w4.heap.size < w5.heap.size := (hown8.lt w4.heap.size rfl).2
  have HO8 : Hid (w5.ownsRow w4.heap.size 5 1 (.slice (some ⟨w4.heap.size, 0, none⟩) (s8.length + 8) (s8.length + 8)) (s8.length + 8) (vals .u8 (S8.full s8))) := hown8
  have HV05 : Hid (NumsAt .i64 w5 v0 s8) := NumsAt.below HV04.out hB5
  have HV15 : Hid (NumsAt .i64 w5 v1 s16) := NumsAt.below HV1.out hB5
  clear hown8 hB5 HV04 HV1
  go_wp2_with fail
  refine (S16.lent_any HV15.out HX1.out hl1).mono ?_
  rintro e w6 ⟨rfl, hown16, hB6⟩
  have hBw6 := chain hBw5 hB6
  have hsz56 : w5.heap.size < w6.heap.size := (hown16.lt w5.heap.size rfl).2
  have HO16 : Hid (w6.ownsRow w5.heap.size 57 1 (.slice (some ⟨w5.heap.size, 0, none⟩) (s16.length + 8) (s16.length + 8)) (s16.length + 8) (vals .u16 (S16.full s16))) := hown16
  have HO86 : Hid (w6.ownsRow w4.heap.size 5 1 (.slice (some ⟨w4.heap.size, 0, none⟩) (s8.length + 8) (s8.length + 8)) (s8.length + 8) (vals .u8 (S8.full s8))) := S8.own_below HO8.out hB6
  have HV06 : Hid (NumsAt .i64 w6 v0 s8) := NumsAt.below HV05.out hB6
  have HV16 : Hid (NumsAt .i64 w6 v1 s16) := NumsAt.below HV15.out hB6
  clear hown16 hB6 HO8 HV05 HV15
  go_wp2_with fail
  refine (S8.newseq_all (S8.nums_pre HO86.out rfl) HX0.out).mono ?_
  rintro e w7 ⟨p, ep, rfl, hmp, hB7⟩
  have hBw7 := chain hBw6 hB7
  have hsz67 := hB7.size
  have HMP7 : Hid (S8.MadeSeq w7 p ep s8) := hmp
  have HO87 : Hid (w7.ownsRow w4.heap.size 5 1 (.slice (some ⟨w4.heap.size, 0, none⟩) (s8.length + 8) (s8.length + 8)) (s8.length + 8) (vals .u8 (S8.full s8))) := S8.own_below HO86.out hB7
  have HO167 : Hid (w7.ownsRow w5.heap.size 57 1 (.slice (some ⟨w5.heap.size, 0, none⟩) (s16.length + 8) (s16.length + 8)) (s16.length + 8) (vals .u16 (S16.full s16))) := S16.own_below HO16.out hB7
  have HV07 : Hid (NumsAt .i64 w7 v0 s8) := NumsAt.below HV06.out hB7
  have HV17 : Hid (NumsAt .i64 w7 v1 s16) := NumsAt.below HV16.out hB7
  clear hmp hB7 HO86 HO16 HV06 HV16
  go_wp2_with fail
  refine (S16.newseq_all (S16.nums_pre HO167.out rfl) HX1.out).mono ?_
  rintro e w8 ⟨q, eq_, rfl, hmq, hB8⟩
  have hBw8 := chain hBw7 hB8
  have hsz78 := hB8.size
  have HMQ8 : Hid (S16.MadeSeq w8 q eq_ s16) := hmq
  have HMP8 : Hid (S8.MadeSeq w8 p ep s8) := S8.MadeSeq.below HMP7.out hB8
  have HO88 : Hid (w8.ownsRow w4.heap.size 5 1 (.slice (some ⟨w4.heap.size, 0, none⟩) (s8.length + 8) (s8.length + 8)) (s8.length + 8) (vals .u8 (S8.full s8))) := S8.own_below HO87.out hB8
  have HO168 : Hid (w8.ownsRow w5.heap.size 57 1 (.slice (some ⟨w5.heap.size, 0, none⟩) (s16.length + 8) (s16.length + 8)) (s16.length + 8) (vals .u16 (S16.full s16))) := S16.own_below HO167.out hB8
  have HV08 : Hid (NumsAt .i64 w8 v0 s8) := NumsAt.below HV07.out hB8
  have HV18 : Hid (NumsAt .i64 w8 v1 s16) := NumsAt.below HV17.out hB8
  clear hmq hB8 HMP7 HO87 HO167 HV07 HV17
  go_wp2_with fail
  refine (S8.still_any HV08.out HX0.out hl0 HO88.out (by omega)).mono ?_
  rintro e w9 ⟨rfl, hk9, hB9, hE9⟩
  have hBw9 : Below w.heap.size w w9 := hBw8.trans (hB9.mono hBw4.size)
  have HMQ9 : Hid (S16.MadeSeq w9 q eq_ s16) := made16_k8 HMQ8.out hk9
  have HMP9 : Hid (S8.MadeSeq w9 p ep s8) := made8_k8 HMP8.out hk9
  have HO169 : Hid (w9.ownsRow w5.heap.size 57 1 (.slice (some ⟨w5.heap.size, 0, none⟩) (s16.length + 8) (s16.length + 8)) (s16.length + 8) (vals .u16 (S16.full s16))) := S8.own_else HO168.out (by omega) (by omega) hE9
  have HV09 : Hid (NumsAt .i64 w9 v0 s8) := S8.nums_keeps HV08.out hk9
  have HV19 : Hid (NumsAt .i64 w9 v1 s16) := S8.nums_keeps HV18.out hk9
  have hsz89 := hB9.size
  clear hk9 hB9 hE9 HMQ8 HMP8 HO88 HO168 HV08 HV18
  go_wp2_with fail
  refine (S16.still_any HV19.out HX1.out hl1 HO169.out (by omega)).mono ?_
  rintro e w10 ⟨rfl, hk10, hB10, hE10⟩
  have hBw10 : Below w.heap.size w w10 := hBw9.trans (hB10.mono hBw5.size)
  have HMQ : Hid (S16.MadeSeq w10 q eq_ s16) := made16_k16 HMQ9.out hk10
  have HMP : Hid (S8.MadeSeq w10 p ep s8) := made8_k16 HMP9.out hk10
  have HV0 : Hid (NumsAt .i64 w10 v0 s8) := S16.nums_keeps HV09.out hk10
  have HV1 : Hid (NumsAt .i64 w10 v1 s16) := S16.nums_keeps HV19.out hk10
  have HSC : Hid (AskAt w10 a2 len2 E) := H2.out.below hBw10
  have HBW : Hid (Below w.heap.size w w10) := hBw10
  clear hk10 hB10 hE10 HMQ9 HMP9 HO169 HV09 HV19 H2 hBw4 hBw5 hBw6 hBw7 hBw8 hBw9 hBw10 hsz45 hsz56 hsz67 hsz78 hsz89
  go_upto_region 15 with fail
  go_cut [111] from 74 to 111 (fun s wx => s = .bool false ∧ wx = w10)
  case first =>
    rcases HMP.out with ⟨hm1, rfl, pb, pg, rfl, _⟩ | ⟨hm1, rfl, rfl⟩
    · rcases HMQ.out with ⟨hm2, rfl, qb, qg, rfl, _⟩ | ⟨hm2, rfl, rfl⟩
      · have i1 : ¬ (100000 : Int) < (s8.length : Int) := by omega
        have i2 : ¬ (100000 : Int) < (s16.length : Int) := by omega
        go_wp2_with (go_at_call 15; refine (R.num_any _ _).mono ?_; rintro e wy ⟨rfl, rfl⟩)
        go_meet
        exact ⟨by simp <;> omega, rfl⟩
      · have i1 : ¬ (100000 : Int) < (s8.length : Int) := by omega
        have i2 : (100000 : Int) < (s16.length : Int) := by omega
        go_wp2_with (go_at_call 15; refine (R.num_any _ _).mono ?_; rintro e wy ⟨rfl, rfl⟩)
        go_meet
        exact ⟨by simp <;> omega, rfl⟩
    · rcases HMQ.out with ⟨hm2, rfl, qb, qg, rfl, _⟩ | ⟨hm2, rfl, rfl⟩
      · have i1 : (100000 : Int) < (s8.length : Int) := by omega
        have i2 : ¬ (100000 : Int) < (s16.length : Int) := by omega
        go_wp2_with (go_at_call 15; refine (R.num_any _ _).mono ?_; rintro e wy ⟨rfl, rfl⟩)
        go_meet
        exact ⟨by simp <;> omega, rfl⟩
      · have i1 : (100000 : Int) < (s8.length : Int) := by omega
        have i2 : (100000 : Int) < (s16.length : Int) := by omega
        go_wp2_with (go_at_call 15; refine (R.num_any _ _).mono ?_; rintro e wy ⟨rfl, rfl⟩)
        go_meet
        exact ⟨by simp <;> omega, rfl⟩
  case rest =>
    obtain ⟨rfl, hwc⟩ := hcut
    rw [hwc]
    clear hwc wc
    go_wp2
    go_loopw [19] (fun c wr => ∃ k : Nat, k ≤ len2 ∧ c = .int .i64 k ∧ Below w10.heap.size w10 wr) (fun c _ => len2 - (intOf c).toNat)
    case atStart => exact ⟨0, Nat.zero_le _, rfl, Below.refl _ _⟩
    case round =>
      obtain ⟨k, hk, rfl, hbel⟩ := hrel
      by_cases hlt : k < len2
      · obtain ⟨b, off, rfl, hcell⟩ := (HSC.out.below hbel).resolve_left (by omega)
        have e0 := hcell k hlt 0 (by decide)
        have e1 := hcell k hlt 1 (by decide)
        have e2 := hcell k hlt 2 (by decide)
        have e3 := hcell k hlt 3 (by decide)
        have e4 := hcell k hlt 4 (by decide)
        have e5 := hcell k hlt 5 (by decide)
        simp only [Nat.add_zero] at e0
        have hkl : (k : Int) < (len2 : Int) := by omega
        have HBe : Hid _ := hbel
        have HCL : Hid _ := hcell
        clear hcell hbel
        cases hH0 : (bits BinOp.and IntKind.i64 (E k 1) 1 == 0)
        · cases hH1 : (bits BinOp.and IntKind.i64 (E k 1) 1 == 1)
          · go_wp2
            go_roundw
            case rel => exact ⟨k + 1, by omega, by go_num, HBe.out⟩
            case measure => simp [intOf]; omega
          · rcases (HMQ.out.below HBe.out) with ⟨hm1, hm2, qb, qg, rfl, hq⟩ | ⟨hm1, hm2, rfl⟩
            · clear hm1 hm2
              have HOF : Hid (Calls Try.prog 29 _ _ _) := S16.of_any hq (NumsAt.below HV1.out HBe.out) (E k 0) (E k 1) (E k 2) (E k 3) (E k 4) (E k 5)
              clear hq
              go_wp2_with fail
              refine (Calls.mono HOF.out ?_)
              rintro e w11 ⟨rfl, hB11⟩
              go_wp2
              go_roundw
              case rel => exact ⟨k + 1, by omega, by go_num, chain HBe.out hB11⟩
              case measure => simp [intOf]; omega
            · clear hm1 hm2
              go_wp2
              go_roundw
              case rel => exact ⟨k + 1, by omega, by go_num, HBe.out⟩
              case measure => simp [intOf]; omega
        · have hH1 : (bits BinOp.and IntKind.i64 (E k 1) 1 == 1) = false := by
            have := eq_of_beq hH0
            rw [this]; rfl
          rcases (HMP.out.below HBe.out) with ⟨hm1, hm2, pb, pg, rfl, hp⟩ | ⟨hm1, hm2, rfl⟩
          · clear hm1 hm2
            have HOF : Hid (Calls Try.prog 28 _ _ _) := S8.of_any hp (NumsAt.below HV0.out HBe.out) (E k 0) (E k 1) (E k 2) (E k 3) (E k 4) (E k 5)
            clear hp
            go_wp2_with fail
            refine (Calls.mono HOF.out ?_)
            rintro e w11 ⟨rfl, hB11⟩
            have e1' := cell_kept hB11 _ _ e1
            have HE1 : Hid _ := chain HBe.out hB11
            clear hB11
            go_wp2
            go_roundw
            case rel => exact ⟨k + 1, by omega, by go_num, HE1.out⟩
            case measure => simp [intOf]; omega
          · clear hm1 hm2
            go_wp2
            go_roundw
            case rel => exact ⟨k + 1, by omega, by go_num, HBe.out⟩
            case measure => simp [intOf]; omega
      · obtain rfl : k = len2 := by omega
        go_wp2
        go_ret
        exact ⟨rfl, chain HBW.out hbel⟩
end Go.Proofs.Ytphjbbbnbmafnaa
