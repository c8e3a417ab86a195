/-
  The walk of trelliskeep.Inverse: over any row of bools and any place it returns true, and nothing that was there is written. No condition but how such arguments lie in memory.
-/
import Derived.Test.YtphjbbbnbmafnaaShown
namespace Go.Proofs.Ytphjbbbnbmafnaa
open Go.RowKit

/-- the text of the first k bools -/
def letterOf (b : Bool) : UInt8 := if b then 49 else 48
def txt (B : Nat → Bool) (k : Nat) : ByteArray := ⟨((List.range k).map fun i => letterOf (B i)).toArray⟩
theorem txt_size (B : Nat → Bool) (k : Nat) : (txt B k).size = k := by simp [txt, ByteArray.size]
theorem txt_get (B : Nat → Bool) (k i : Nat) (h : i < k) : (txt B k).data.toList[i]? = some (letterOf (B i)) := by simp [txt, h]
theorem txt_one (B : Nat → Bool) (k : Nat) (h : B k = true) : txt B k ++ { data := #[49] } = txt B (k + 1) := by
  apply ByteArray.ext
  simp [txt, List.range_succ, letterOf, h]
theorem txt_zero (B : Nat → Bool) (k : Nat) (h : B k = false) : txt B k ++ { data := #[48] } = txt B (k + 1) := by
  apply ByteArray.ext
  simp [txt, List.range_succ, letterOf, h]
theorem txt_okTo (B : Nat → Bool) (m : Nat) : okTo (txt B m) (txt B m).size := fun i hi => by
  rw [txt_size] at hi
  rw [txt_get B m i hi]
  cases B i <;> simp [letterOf]
theorem txt_ok (B : Nat → Bool) (m : Nat) (h : m ≤ 100000) : okB (txt B m) = true := okB_of (by rw [txt_size]; exact h) (txt_okTo B m)
theorem txt_bit (B : Nat → Bool) (m i : Nat) (h : i < m) : bitOf (txt B m) i = B i := by
  unfold bitOf
  rw [txt_get B m i h]
  cases B i <;> simp [letterOf]
theorem txt_at (B : Nat → Bool) (m i : Nat) (h : i < (txt B m).size) : (((txt B m)[i].toNat : Int) == 49) = B i := by
  have h' := h
  rw [txt_size] at h'
  have a := at_k (txt B m) i h
  rw [txt_get B m i h'] at a
  simp only [Option.some.injEq] at a
  rw [← a]
  cases B i <;> simp [letterOf]

theorem inv_yes {B : Nat → Bool} {k i t : Nat} (hi : i ≤ k) (hKa : cnt (bitOf (txt B k)) i < cnt (bitOf (txt B k)) k) (ht : t < k) (hft : bitOf (txt B k) t = true) (hct : cnt (bitOf (txt B k)) t = cnt (bitOf (txt B k)) i) :
    i ≤ t ∧ i < k ∧ cnt (bitOf (txt B k)) (t + 1) = cnt (bitOf (txt B k)) i + 1 ∧ B t = true ∧ ((B i = true ∧ t = i) ∨ (B i = false ∧ t ≠ i)) := by
  have hs : cnt (bitOf (txt B k)) (t + 1) = cnt (bitOf (txt B k)) i + 1 := by rw [cnt_succ, hft, hct]; rfl
  have h1 : i ≤ t := by
    by_cases e : i ≤ t
    · exact e
    · have := cnt_mono (bitOf (txt B k)) (show t + 1 ≤ i by omega); omega
  have h2 : i < k := by
    by_cases e : i = k
    · subst e; omega
    · omega
  refine ⟨h1, h2, hs, by rw [← txt_bit B k t ht]; exact hft, ?_⟩
  cases hB : B i with
  | true => exact .inl ⟨rfl, cnt_uniq _ hft (by rw [txt_bit B k i h2]; exact hB) hct⟩
  | false => exact .inr ⟨rfl, fun e => by subst e; rw [txt_bit B k t h2, hB] at hft; cases hft⟩
theorem inv_no {B : Nat → Bool} {k i : Nat} (hi : i ≤ k) (hKa : ¬ cnt (bitOf (txt B k)) i < cnt (bitOf (txt B k)) k) : i = k ∨ (i < k ∧ B i = false) := by
  by_cases e : i = k
  · exact .inl e
  · right
    refine ⟨by omega, ?_⟩
    cases hB : B i with
    | false => rfl
    | true =>
      have := cnt_mono (bitOf (txt B k)) (show i + 1 ≤ k by omega)
      rw [cnt_succ, txt_bit B k i (by omega), hB] at this
      simp at this
      omega
theorem chain {w a b : World} (h1 : Below w.heap.size w a) (h2 : Below a.heap.size a b) : Below w.heap.size w b := h1.trans (h2.mono h1.size)
theorem rank_at {w : World} {b bw ba n : Nat} {f : Nat → Bool} {W : Nat → Nat} (hb : BitsAt w b bw ba f n W) (i : Nat) (h : i ≤ n) (I : Int) (hI : I = (i : Int)) :
    Calls Try.prog 10 #[.pointer (some ⟨b, 0, none⟩), .int .i64 I] w fun e w' => e = .returned (.tuple #[.int .i64 (cnt f i : Int), .int .i64 0]) ∧ ∃ q, w' = w.drewN q := by
  subst hI; exact rank_yes hb i h

set_option maxHeartbeats 2000000 in
set_option maxRecDepth 100000 in
theorem inverse_walk (a0 : Option Addr) (len cap : Nat) (B : Nat → Bool) (place : Int) (w : World) (hrow : len = 0 ∨ ∃ b off, a0 = some ⟨b, off, none⟩ ∧ ∀ i, i < len → w.cell? ⟨b, off + i, none⟩ = some (.bool (B i))) (_hlen : len ≤ maxLen) (hp : -9223372036854775808 ≤ place ∧ place ≤ 9223372036854775807) :
    Calls Try.prog 4 #[.slice a0 len cap, .int .i64 place] w fun e w' => e = .returned (.bool true) ∧ Below w.heap.size w w' := by
  unfold maxLen at _hlen
  have HR : Hid _ := hrow
  clear hrow
  have HP : Hid _ := hp
  clear hp
  go_enter Try.func4, Try.ntmps4
  go_wp2_with fail
  refine (shown_any _).mono ?_
  rintro e w1 ⟨rfl, hB1⟩
  go_wp2
  go_loop [6, 7] (fun s c => ∃ k : Nat, k ≤ len ∧ k ≤ 500 ∧ c = .int .i64 k ∧ s = .string (txt B k)) (fun _ c => 500 - (intOf c).toNat)
  case atStart => exact ⟨0, Nat.zero_le _, Nat.zero_le _, rfl, rfl⟩
  case round =>
    obtain ⟨k, hk1, hk2, rfl, rfl⟩ := hrel
    have hsz := txt_size B k
    by_cases hlt : k < len ∧ k < 500
    · obtain ⟨h1, h2⟩ := hlt
      obtain ⟨b, off, rfl, hcell⟩ : ∃ b off, a0 = some ⟨b, off, none⟩ ∧ ∀ i, i < len → w.cell? ⟨b, off + i, none⟩ = some (.bool (B i)) := HR.out.resolve_left (by omega)
      have hc := cell_kept hB1 _ _ (hcell k h1)
      have h1' : (k : Int) < (len : Int) := by omega
      have h2' : (k : Int) < 500 := by omega
      clear hcell HR
      cases hBk : B k
      · rw [hBk] at hc
        have HT : Hid _ := txt_zero B k hBk
        clear hBk
        go_wp2
        go_round
        case rel => exact ⟨k + 1, by omega, by omega, by go_num, by rw [HT.out]⟩
        case measure => simp [intOf]; omega
      · rw [hBk] at hc
        have HT : Hid _ := txt_one B k hBk
        clear hBk
        go_wp2
        go_round
        case rel => exact ⟨k + 1, by omega, by omega, by go_num, by rw [HT.out]⟩
        case measure => simp [intOf]; omega
    · have hk500 : k ≤ 100000 := by omega
      have hin : (k : Int) ≤ 500 := by omega
      rcases (show (k < len ∧ 500 ≤ k) ∨ len ≤ k by omega) with ⟨hc, hc5⟩ | hc
      all_goals
        clear hlt
        go_wp2_with fail
        refine (new_any (txt B k) _ (by rw [txt_size]; exact hk500)).mono ?_
        rintro e w2 ⟨hB2, ⟨hf, rfl⟩ | ⟨_, b, bw, ba, W, rfl, hb⟩⟩
        · rw [txt_ok B k hk500] at hf; cases hf
        rw [txt_size] at hb
        go_wp2_with fail
        refine (len_any hb).mono ?_
        rintro e w3 ⟨rfl, rfl⟩
        go_wp2_with fail
        refine (pick_any place (k + 1) HP.out (by omega) (by omega) _ (by omega) _).mono ?_
        rintro e w3 ⟨i, rfl, hi, rfl⟩
        have hiK : i ≤ k := by omega
        have hle : cnt (bitOf (txt B k)) i ≤ cnt (bitOf (txt B k)) k := cnt_mono _ hiK
        have hck := cnt_le (bitOf (txt B k)) k
        go_wp2_with fail
        refine (rank_at hb i hiK _ (by omega)).mono ?_
        rintro e w3 ⟨rfl, q1, rfl⟩
        go_wp2_with fail
        refine (rank_at (hb.drewN q1) k (Nat.le_refl _) _ (by omega)).mono ?_
        rintro e w3 ⟨rfl, q2, rfl⟩
        by_cases hKa : cnt (bitOf (txt B k)) i < cnt (bitOf (txt B k)) k
        · go_wp2_with fail
          refine (select_yes (hb.drewN (q1 + q2)) _ hKa).mono ?_
          rintro e w4 ⟨t, rfl, ht, hft, hct, hB4⟩
          have hb4 := (hb.drewN (q1 + q2)).below hB4
          obtain ⟨f1, f2, f3, f4, f5⟩ := inv_yes hiK hKa ht hft hct
          have r1 := rank_at hb4 t (by omega) (t : Int) rfl
          rw [hct] at r1
          have R1 : Hid (Calls Try.prog 10 _ _ _) := r1
          have R2 : Hid (∀ q, Calls Try.prog 10 _ _ _) := fun q => rank_at (hb4.drewN q) (t + 1) (by omega) ((t : Int) + 1) (by omega)
          have F3 : Hid _ := f3
          clear hct hft r1 f3
          have ht1 : t < (txt B k).size := by rw [txt_size]; exact ht
          have hi1 : i < (txt B k).size := by rw [txt_size]; exact f2
          have c1 := txt_at B k t ht1
          have c2 := txt_at B k i hi1
          rw [f4] at c1
          have hne : ((i : Int) == (k : Int)) = false := by simp; omega
          have hb5 := chain (below_drewN (chain hB1 hB2) (q1 + q2)) hB4
          rcases f5 with ⟨g1, rfl⟩ | ⟨g1, g2⟩
          · rw [g1] at c2
            clear g1 f4
            go_wp2_with fail
            refine R1.out.mono ?_
            rintro e w5 ⟨rfl, q3, rfl⟩
            go_wp2_with fail
            have r2 := R2.out q3
            rw [F3.out] at r2
            refine r2.mono ?_
            clear r2
            rintro e w5 ⟨rfl, q4, rfl⟩
            go_wp2
            go_ret
            exact ⟨rfl, below_drewN hb5 _⟩
          · rw [g1] at c2
            have g3 : ((t : Int) == (i : Int)) = false := by simp; omega
            clear g1 f4 g2
            go_wp2_with fail
            refine R1.out.mono ?_
            rintro e w5 ⟨rfl, q3, rfl⟩
            go_wp2_with fail
            have r2 := R2.out q3
            rw [F3.out] at r2
            refine r2.mono ?_
            clear r2
            rintro e w5 ⟨rfl, q4, rfl⟩
            go_wp2
            go_ret
            exact ⟨rfl, below_drewN hb5 _⟩
        · go_wp2_with fail
          refine (select_no (hb.drewN (q1 + q2)) _ (.inr (by omega))).mono ?_
          rintro e w4 ⟨rfl, hB4⟩
          have hb5 := chain (below_drewN (chain hB1 hB2) (q1 + q2)) hB4
          rcases inv_no hiK hKa with rfl | ⟨g1, g2⟩
          · go_wp2
            go_ret
            exact ⟨rfl, hb5⟩
          · have hi1 : i < (txt B k).size := by rw [txt_size]; exact g1
            have c2 := txt_at B k i hi1
            rw [g2] at c2
            have hne : ((i : Int) == (k : Int)) = false := by simp; omega
            go_wp2
            go_ret
            exact ⟨rfl, hb5⟩
end Go.Proofs.Ytphjbbbnbmafnaa
