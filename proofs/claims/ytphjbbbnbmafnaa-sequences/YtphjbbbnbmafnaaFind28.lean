/-
  Select of a sequence of numbers of 8 bits that lies in memory as NewSeq makes it: where a number is for the k-th time, or ErrRange; nothing that was there is written. The sequence's reading is the one condition.
-/
import Derived.Test.YtphjbbbnbmafnaaAsk8
namespace Go.Proofs.Ytphjbbbnbmafnaa.S8
open Go.RowKit Go.Proofs.Ytphjbbbnbmafnaa

set_option maxHeartbeats 2000000 in
theorem select_no {w : World} {b g : Nat} {l : List Nat} (hs : SeqAt 8 w b g l) (c : Nat) (hc : c < 2 ^ 8) (k : Int) (h : k < 0 ∨ (cnt (eqf l c) l.length : Int) ≤ k) :
    Calls Try.prog 58 #[.pointer (some ⟨b, 0, none⟩), .int .u8 (c : Int), .int .i64 k] w fun e w' => e = .returned (.tuple #[.int .i64 0, .int .i64 1]) ∧ Below w.heap.size w w' := by
  have h0 := hs.len
  have hn := hs.hn
  have hll := led_le c hc hs.lt (Nat.zero_le l.length) (Nat.le_refl _) 8 (Nat.le_refl _)
  have hr := led_rank c hc hs.lt l.length (Nat.le_refl _)
  rcases h with h | h
  · clear hr
    go_enter Try.func58, Try.ntmps58
    go_wp2_with fail
    refine (places_any hs c hc 0 l.length (Nat.zero_le _) (Nat.le_refl _)).mono ?_
    rintro e w1 ⟨rfl, hB1⟩
    go_wp2
    go_ret2
    exact ⟨rfl, hB1.alloc hB1.size _⟩
  · have hk0 : ¬ k < 0 := by omega
    have hk1 : (led 8 l c 8 l.length : Int) - (led 8 l c 8 0 : Int) ≤ k := by omega
    have HR : Hid _ := hr
    clear hr h
    go_enter Try.func58, Try.ntmps58
    go_wp2_with fail
    refine (places_any hs c hc 0 l.length (Nat.zero_le _) (Nat.le_refl _)).mono ?_
    rintro e w1 ⟨rfl, hB1⟩
    go_wp2_with fail
    refine (long_any _ _ (by omega) (by omega) _).mono ?_
    rintro e w2 ⟨rfl, hB2⟩
    go_wp2
    go_ret2
    exact ⟨rfl, chain (hB1.alloc hB1.size _) hB2⟩
set_option maxHeartbeats 4000000 in
theorem select_at {w : World} {b g : Nat} {l : List Nat} (hs : SeqAt 8 w b g l) (c t : Nat) (ht : l[t]? = some c) (k : Int) (hk : k = (cnt (eqf l c) t : Int)) :
    Calls Try.prog 58 #[.pointer (some ⟨b, 0, none⟩), .int .u8 (c : Int), .int .i64 k] w fun e w' => e = .returned (.tuple #[.int .i64 (t : Int), .int .i64 0]) ∧ Below w.heap.size w w' := by
  have h0 := hs.len
  have hn := hs.hn
  have hc : c < 2 ^ 8 := hs.lt c (List.mem_of_getElem? ht)
  have htl : t < l.length := (led_at ht hs.lt 0 (by decide)).2
  have hll := led_le c hc hs.lt (Nat.zero_le l.length) (Nat.le_refl _) 8 (Nat.le_refl _)
  have hr := led_rank c hc hs.lt l.length (Nat.le_refl _)
  have hrt := led_rank c hc hs.lt t (by omega)
  have hmo := cnt_mono (eqf l c) (show t + 1 ≤ l.length by omega)
  rw [cnt_succ, show eqf l c t = true by unfold eqf; rw [ht]; simp] at hmo
  simp only [Bool.toNat_true] at hmo
  have hk0 : ¬ k < 0 := by omega
  have hk1 : k < (led 8 l c 8 l.length : Int) - (led 8 l c 8 0 : Int) := by omega
  have hkt : (led 8 l c 8 0 : Int) + k = (led 8 l c 8 t : Int) := by omega
  have hkb : k ≤ 100000 := by omega
  have HS : Hid _ := hs
  have HT : Hid (l[t]? = some c) := ht
  have HKT : Hid _ := hkt
  clear hs ht hkt hr hrt hmo hk
  go_enter Try.func58, Try.ntmps58
  go_wp2_with fail
  refine (places_any HS.out c hc 0 l.length (Nat.zero_le _) (Nat.le_refl _)).mono ?_
  rintro e w1 ⟨rfl, hB1⟩
  go_wp2_with fail
  refine (long_any _ _ (by omega) (by omega) _).mono ?_
  rintro e w2 ⟨rfl, hB2⟩
  have hX := (box2_new w1 (.int .i64 (led 8 l c 8 0 : Int)) (.int .i64 (led 8 l c 8 l.length : Int)) 32).below hB2
  have hb2 := chain (hB1.alloc hB1.size _) hB2
  have k0 := hX.c0
  have k1 := (HS.out.below hb2).levels
  clear hX hB1 hB2
  go_wp2
  go_loopw [9, 10] (fun si sd wr => ∃ d : Nat, d ≤ 8 ∧ sd = .int .i64 ((d : Int) - 1) ∧ si = .int .i64 (led 8 l c d t : Int) ∧ Below w.heap.size w wr) (fun _ sd _ => (intOf sd + 1).toNat)
  case atStart => exact ⟨8, Nat.le_refl _, by go_num, by rw [HKT.out], hb2⟩
  case round =>
    clear k0 k1 hb2
    obtain ⟨d1, hd, rfl, rfl, hbel⟩ := hrel
    rcases d1 with _ | d
    · go_wp2
      go_ret2
      exact ⟨rfl, hbel⟩
    · have hlt : d < 8 := by omega
      have hs1 := HS.out.below hbel
      obtain ⟨bb, bw, ba, W, hcell, hbits⟩ := hs1.level d hlt
      obtain ⟨hat, hle⟩ := led_at HT.out hs1.lt d (by omega)
      have hdI : (d : Int) < 8 := by omega
      have hd1 : ((d + 1 : Nat) : Int) - 1 = (d : Int) := by omega
      have k1 := hs1.levels
      have HA : Hid _ := and_bit c d hc hlt
      have HF : Hid _ := bitf_at (b := 8 - 1 - d) hat
      have HBe : Hid _ := hbel
      have HS1 : Hid _ := hs1
      have HB1 : Hid _ := hbits
      have HUP : Hid (∀ w2, BitsAt w2 bb bw ba (bitf (lev 8 l d) (8 - 1 - d)) l.length W → Calls Try.prog 66 #[.pointer (some ⟨bb, 0, none⟩), .int .i64 (led 8 l c (d + 1) t : Int), .bool (bits .and .u8 (c : Int) (bitv 8 d) != 0)] w2 fun e w' => e = .returned (.int .i64 (led 8 l c d t : Int)) ∧ Below w2.heap.size w2 w') :=
        fun w2 h2 => up_any h2 _ _ hle (HF.out.trans HA.out.symm) _ (congrArg Nat.cast (led_next (l := l) (t := t) _ HA.out).symm)
      clear hbel hs1 hbits hat
      rw [hd1]
      go_wp2
      go_region_held (fun w' => w'.cell? ⟨b, 1, none⟩ = some (.slice (some ⟨g, 0, none⟩) 8 8) ∧ w'.cell? ⟨g, d, none⟩ = some (.pointer (some ⟨bb, 0, none⟩))) (go_keep) (first
        | (go_at_call 47; refine (bitAt_any (l := l) (g := g) ?_ d hlt).mono ?_; exact (HS1.out.kept (fun _ _ h => h)); rintro e w' ⟨rfl, rfl⟩)
        | (go_at_call 66; refine (HUP.out _ ?_).mono ?_; exact (HB1.out.kept (fun _ _ h => h)); rintro e w' ⟨rfl, hB⟩; have q1 := cell_kept hB ⟨b, 1, none⟩ (.slice (some ⟨g, 0, none⟩) 8 8) k1; have q2 := cell_kept hB ⟨g, d, none⟩ (.pointer (some ⟨bb, 0, none⟩)) hcell))
      all_goals
        go_wp2
        go_roundw
        case rel => exact ⟨d, by omega, by go_num, rfl, chain (HBe.out.drew) hB⟩
        case measure => simp [intOf]
end Go.Proofs.Ytphjbbbnbmafnaa.S8
