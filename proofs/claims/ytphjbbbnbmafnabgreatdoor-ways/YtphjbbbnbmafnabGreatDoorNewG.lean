/-
  slices' symMerge, stable and SortStableFunc over edges, by compareLabels: a row of one's own that was in order is then ordered by labels, what is the same staying as it was; nothing else is written.
  slices.SortStableFunc over a row of edges of one's own, by compareLabels: ordered by labels, what is the same staying as it was; nothing else is written.
  slices.SortedStableFunc over the edges of a slice, by compareLabels: a new list, ordered by labels, what is the same staying as it was; nothing that was there is written.
  The program's newGraph over a list of edges in order: the graph as it lies in memory ('GraphAt'): its size, its vector of sources, its sequences of labels and of ends by labels; nothing that was there is written.
-/
import Derived.Test.YtphjbbbnbmafnabGreatDoorSym3
import Derived.Test.YtphjbbbnbmafnabGreatDoorGMath
import Derived.Test.YtphjbbbnbmafnabGreatDoorKnown
import Derived.Test.YtphjbbbnbmafnabGreatDoorSwp
import Derived.Test.YtphjbbbnbmafnabGreatDoorQMath
import Derived.Test.YtphjbbbnbmafnabGreatDoorGBits
import Derived.Test.YtphjbbbnbmafnabGreatDoorPText
import Derived.Test.YtphjbbbnbmafnabGreatDoorNumsOf8
import Derived.Test.YtphjbbbnbmafnabGreatDoorNumsOf16
namespace Go.Proofs.YtphjbbbnbmafnabGreatDoor.G
open Go.RowKit

theorem symm_all : ∀ (n : Nat) (X A B Y : List E3) (a m b N g cap : Nat) (w : World), A.length + B.length ≤ n → N ≤ 1000000 → SymP X A B Y a m b N g cap w → SymC X A B Y a m b N g cap w
  | 0, X, A, B, Y, a, m, b, N, g, cap, w, hn, _, h => by
    exact absurd (List.eq_nil_of_length_eq_zero (by omega : A.length = 0)) h.2.2.2.2.2.2.2.2.1
  | n + 1, X, A, B, Y, a, m, b, N, g, cap, w, hn, hl, h => by
    have hA0 := List.length_pos_iff.2 h.2.2.2.2.2.2.2.2.1
    have hB0 := List.length_pos_iff.2 h.2.2.2.2.2.2.2.2.2
    by_cases h1 : A.length = 1
    · obtain ⟨x, rfl⟩ := List.length_eq_one_iff.1 h1
      obtain ⟨hR, ha, hm, hb, hN, hSA, hSB, hbef, _, _⟩ := h
      exact symm_one X B Y x a m b N g cap w hR ha (by simpa using hm) hb hN hl hSB (fun y hy => hbef x (by simp) y hy)
    · by_cases h2 : B.length = 1
      · obtain ⟨y, rfl⟩ := List.length_eq_one_iff.1 h2
        obtain ⟨hR, ha, hm, hb, hN, hSA, hSB, hbef, _, _⟩ := h
        exact symm_two X A Y y a m b N g cap w hR ha hm (by omega) (by simpa using hb) hN hl hSA (fun z hz => hbef z hz y (by simp))
      · exact symm_gen X A B Y a m b N g cap w h (by omega) (by omega) hl (fun X' A' B' Y' a' m' b' w' hlt hp => symm_all n X' A' B' Y' a' m' b' N g cap w' (by omega) hl hp)
theorem take_two (L : List E3) (a k : Nat) : L.take (a + k) = L.take a ++ (L.drop a).take k := List.take_add
theorem drop_two (L : List E3) (a k : Nat) : (L.drop a).drop k = L.drop (a + k) := by rw [List.drop_drop]
theorem strict_drop {L : List E3} (h : Gm.Strict L) (a : Nat) : Gm.Strict (L.drop a) := List.Pairwise.sublist (List.drop_sublist _ _) h
theorem stab_one {L D1 D' : List E3} {k a b t : Nat} (hB : Gm.Blocks k (L.take a) D1) (ht : a = k * t) (hb : b = a + k) (hbN : a ≤ L.length) (hs : Gm.S2 D') (hp : D'.Perm ((L.drop a).take k)) : Gm.Blocks k (L.take b) (D1 ++ D') := by
  have hl : (L.take a).length = k * t := by rw [List.length_take, ← ht]; exact Nat.min_eq_left hbN
  have hl2 : ((L.drop a).take k).length ≤ k := by rw [List.length_take]; exact Nat.min_le_left _ _
  have h := Gm.blocks_app hB t hl hs hp hl2
  rw [hb, take_two]
  exact h
/-- two blocks of the rest, merged -/
theorem stab_two {L D1 D2 M : List E3} {k a b : Nat} (hB : Gm.Blocks (2 * k) (L.take a) D1) (hB2 : Gm.Blocks k (L.drop a) D2) (ht : ∃ j, a = 2 * k * j) (hb : b = a + 2 * k) (haN : a ≤ L.length) (hs : Gm.S2 M) (hp : M.Perm (D2.take k ++ (D2.drop k).take k)) (hL : Gm.Strict L) : Gm.Blocks (2 * k) (L.take b) (D1 ++ M) ∧ Gm.Blocks k (L.drop b) (D2.drop (2 * k)) := by
  obtain ⟨j, hj⟩ := ht
  have h2 := Gm.blocks_two hB2 (strict_drop hL a)
  constructor
  · refine stab_one hB hj hb haN hs (hp.trans ?_)
    rw [Nat.two_mul, take_two]
    exact h2.2.2.1.append h2.2.2.2.1
  · have h3 := Gm.blocks_drop hB2 2
    rw [drop_two, Nat.mul_comm k 2] at h3
    rw [hb]
    exact h3
theorem stab_last {L D1 M : List E3} {k a : Nat} (hB : Gm.Blocks (2 * k) (L.take a) D1) (ht : ∃ j, a = 2 * k * j) (haN : a ≤ L.length) (hr : L.length ≤ a + 2 * k) (hs : Gm.S2 M) (hp : M.Perm (L.drop a)) : Gm.Blocks (2 * k) L (D1 ++ M) := by
  obtain ⟨j, hj⟩ := ht
  have h := stab_one hB hj rfl haN hs (hp.trans (by rw [List.take_of_length_le (by rw [List.length_drop]; omega)]))
  rw [List.take_of_length_le (by omega)] at h
  exact h
set_option maxHeartbeats 16000000 in
set_option maxRecDepth 100000 in
theorem stable_any (L : List E3) (N g cap : Nat) (w : World) (h : RowE w g cap L) (hL : Gm.Strict L) (hN : L.length = N) (hl : N ≤ 1000000) :
    Calls Tryz.prog 106 #[.slice (some ⟨g, 0, none⟩) N cap, .int .i64 (N : Int), .func (.func 49) #[] #[]] w fun e w' => e = .returned (.tuple #[]) ∧ (∃ R, RowE w' g cap R ∧ R.Perm L ∧ Gm.S2 R) ∧ w.grownBy w' (some g) := by
  have H0 : Hid _ := h
  have HS : Hid _ := hL
  have HN : Hid _ := hN
  clear h hL hN
  go_enter Tryz.func106, Tryz.ntmps106
  go_wp2
  go_loopw [7, 8] (fun sa sb wr => ∃ a b : Nat, sa = .int .i64 (a : Int) ∧ sb = .int .i64 (b : Int) ∧ a ≤ N ∧ b ≤ 2000000 ∧ Hid ((∃ t, a = 20 * t) ∧ b = a + 20 ∧ (∃ D1, RowE wr g cap (D1 ++ L.drop a) ∧ Gm.Blocks 20 (L.take a) D1) ∧ w.grownBy wr (some g))) (fun sa _ _ => N - (intOf sa).toNat)
  case atStart => exact ⟨0, 20, rfl, rfl, Nat.zero_le _, by decide, ⟨0, rfl⟩, rfl, ⟨[], H0.out, Gm.blocks_nil 20⟩, ⟨rfl, rfl, rfl, Nat.le_refl _, fun _ _ _ => rfl⟩⟩
  case round =>
    obtain ⟨a, b, rfl, rfl, haN, hb2, HI⟩ := hrel
    by_cases hlt : b ≤ N
    · obtain ⟨⟨t, ht⟩, hb, ⟨D1, hR, hB⟩, hG⟩ := HI.out
      have hD1 : D1.length = a := by rw [hB.1, List.length_take, HN.out]; omega
      have HC : Hid (Calls Tryz.prog 120 _ wr _) := ins_any D1 ((L.drop a).take 20) (L.drop b) a b N g cap wr (by
        rw [List.append_assoc, hb, ← drop_two, List.take_append_drop]; exact hR) (List.Pairwise.sublist (List.take_sublist _ _) (strict_drop HS.out a)) hD1 (by rw [List.length_take, List.length_drop, HN.out]; omega) (by rw [List.length_drop, HN.out]; omega) hl
      have HB : Hid _ := And.intro hB (And.intro ht (And.intro hb hG))
      clear hR hB hG HI hD1 ht hb
      go_wp2_with fail
      refine (Calls.mono HC.out ?_)
      rintro e w2 ⟨rfl, ⟨D', hr, hp, hs⟩, hg⟩
      have HI2 : Hid ((∃ t, b = 20 * t) ∧ b + 20 = b + 20 ∧ (∃ D1, RowE w2 g cap (D1 ++ L.drop b) ∧ Gm.Blocks 20 (L.take b) D1) ∧ w.grownBy w2 (some g)) := (by
        obtain ⟨hB, ht, hb, hG⟩ := HB.out
        have hst := stab_one hB ht hb (by rw [HN.out]; exact haN) hs hp
        have ht2 : b = 20 * (t + 1) := by rw [hb, ht, Nat.mul_add]
        exact ⟨⟨t + 1, ht2⟩, rfl, ⟨D1 ++ D', hr, hst⟩, hG.trans hg⟩ : _ ∧ _)
      have hba : a < b := by have := HB.out; omega
      clear hr hp hs hg HB HC
      go_wp2
      go_roundw
      case rel => exact ⟨b, b + 20, rfl, by go_num, hlt, by omega, HI2.out.1, rfl, HI2.out.2.2⟩
      case measure => simp [intOf]; omega
    · have HC : Hid (∃ D1, Gm.Blocks 20 (L.take a) D1 ∧ Calls Tryz.prog 120 #[.slice (some ⟨g, 0, none⟩) N cap, .int .i64 (a : Int), .int .i64 (N : Int), .func (.func 49) #[] #[]] wr (fun e w' => e = .returned (.tuple #[]) ∧ (∃ D', RowE w' g cap (D1 ++ D' ++ []) ∧ D'.Perm (L.drop a) ∧ Gm.S2 D') ∧ wr.grownBy w' (some g))) := (by
        obtain ⟨⟨t, ht⟩, hb, ⟨D1, hR, hB⟩, hG⟩ := HI.out
        have hD1 : D1.length = a := by rw [hB.1, List.length_take, HN.out]; omega
        exact ⟨D1, hB, ins_any D1 (L.drop a) [] a N N g cap wr (by rw [List.append_nil]; exact hR) (strict_drop HS.out a) hD1 (by rw [List.length_drop, HN.out]; omega) (by simp) hl⟩ : ∃ D1, _)
      have hlI : ¬ (b : Int) ≤ (N : Int) := by omega
      obtain ⟨D1, hB1, hC⟩ := HC.out
      have HB1 : Hid _ := hB1
      have HC1 : Hid (Calls Tryz.prog 120 _ wr _) := hC
      clear HC hB1 hC
      go_wp2_with fail
      refine (Calls.mono HC1.out ?_)
      rintro e w2 ⟨rfl, ⟨D', hr, hp, hs⟩, hg⟩
      have HK0 : Hid ((∃ D, RowE w2 g cap D ∧ Gm.Blocks 20 L D) ∧ w.grownBy w2 (some g)) := (by
        obtain ⟨⟨t, ht⟩, hb, _, hG⟩ := HI.out
        refine ⟨⟨D1 ++ D', by simpa using hr, ?_⟩, hG.trans hg⟩
        have h2 := Gm.blocks_app HB1.out t (by rw [List.length_take, HN.out]; omega) hs hp (by rw [List.length_drop, HN.out]; omega)
        rw [List.take_append_drop] at h2
        exact h2 : _ ∧ _)
      clear hr hp hs hg HB1 HC1 HI
      go_wp2
      go_loopw [6] (fun sk wr => ∃ k : Nat, sk = .int .i64 (k : Int) ∧ 20 ≤ k ∧ k ≤ 2000000 ∧ Hid ((∃ D, RowE wr g cap D ∧ Gm.Blocks k L D) ∧ w.grownBy wr (some g))) (fun sk _ => 2000000 - (intOf sk).toNat)
      case atStart => exact ⟨20, rfl, Nat.le_refl _, by decide, HK0.out⟩
      case round =>
        obtain ⟨k, rfl, hk1, hk2, HK⟩ := hrel
        by_cases hkN : k < N
        · obtain ⟨⟨D, hR, hB⟩, hG⟩ := HK.out
          obtain ⟨k2, hk22⟩ : ∃ k2, k2 = 2 * k := ⟨_, rfl⟩
          have hk2I : 2 * (k : Int) = (k2 : Int) := by omega
          have HA0 : Hid ((∃ j, 0 = 2 * k * j) ∧ k2 = 0 + 2 * k ∧ (∃ D1 D2, RowE wr g cap (D1 ++ D2) ∧ Gm.Blocks (2 * k) (L.take 0) D1 ∧ Gm.Blocks k (L.drop 0) D2) ∧ w.grownBy wr (some g)) := (⟨⟨0, rfl⟩, by omega, ⟨[], D, hR, Gm.blocks_nil _, hB⟩, hG⟩ : _ ∧ _)
          have hk2b : k2 ≤ 2000000 := by omega
          clear hR hB hG HK
          have hk2e : 40 ≤ k2 := by omega
          have HKK : Hid _ := hk22
          clear hk22
          go_wp2
          go_loopw [7, 8] (fun sa sb wr => ∃ a b : Nat, sa = .int .i64 (a : Int) ∧ sb = .int .i64 (b : Int) ∧ a ≤ N ∧ b ≤ 4000000 ∧ Hid ((∃ j, a = 2 * k * j) ∧ b = a + 2 * k ∧ (∃ D1 D2, RowE wr g cap (D1 ++ D2) ∧ Gm.Blocks (2 * k) (L.take a) D1 ∧ Gm.Blocks k (L.drop a) D2) ∧ w.grownBy wr (some g))) (fun sa _ _ => N - (intOf sa).toNat)
          case atStart => exact ⟨0, k2, rfl, rfl, Nat.zero_le _, by omega, HA0.out⟩
          case round =>
            obtain ⟨a, b, rfl, rfl, haN, hb4, HI⟩ := hrel
            obtain ⟨m, hm⟩ : ∃ m, m = a + k := ⟨_, rfl⟩
            have hmI : (a : Int) + (k : Int) = (m : Int) := by omega
            have HMM : Hid _ := hm
            clear hm
            by_cases hbN : b ≤ N
            · have HC : Hid (∃ D1 D2, Gm.Blocks (2 * k) (L.take a) D1 ∧ Gm.Blocks k (L.drop a) D2 ∧ SymC D1 (D2.take k) ((D2.drop k).take k) (D2.drop (2 * k)) a m b N g cap wr) := (by
                obtain ⟨ht, hb, ⟨D1, D2, hR, hB, hB2⟩, hG⟩ := HI.out
                have h2 := Gm.blocks_two hB2 (strict_drop HS.out a)
                have hmm := HMM.out
                have l1 : D1.length = a := by rw [hB.1, List.length_take, HN.out]; omega
                have l2 : D2.length = N - a := by rw [hB2.1, List.length_drop, HN.out]
                refine ⟨D1, D2, hB, hB2, symm_all _ _ _ _ _ _ _ _ _ _ _ _ (Nat.le_refl _) hl ⟨?_, l1, ?_, ?_, ?_, h2.1, h2.2.1, h2.2.2.2.2, ?_, ?_⟩⟩
                · have e1 := List.take_append_drop k D2
                  have e2 := List.take_append_drop k (D2.drop k)
                  rw [drop_two] at e2
                  rw [show 2 * k = k + k by omega, List.append_assoc, List.append_assoc, e2, e1]
                  exact hR
                · rw [List.length_take, l2]; omega
                · rw [List.length_take, List.length_drop, l2]; omega
                · rw [List.length_drop, l2]; omega
                · intro e; have := congrArg List.length e; rw [List.length_take, l2, List.length_nil] at this; omega
                · intro e; have := congrArg List.length e; rw [List.length_take, List.length_drop, l2, List.length_nil] at this; omega : ∃ D1 D2, _)
              obtain ⟨D1, D2, hB, hB2, hC⟩ := HC.out
              have HB : Hid _ := And.intro hB hB2
              have HC1 : Hid (Calls Tryz.prog 128 _ wr _) := hC
              clear HC hB hB2 hC
              go_wp2_with fail
              refine (Calls.mono HC1.out ?_)
              rintro e w2 ⟨rfl, ⟨M, hr, hp, hs⟩, hg⟩
              have HI2 : Hid ((∃ j, b = 2 * k * j) ∧ (∃ D1 D2, RowE w2 g cap (D1 ++ D2) ∧ Gm.Blocks (2 * k) (L.take b) D1 ∧ Gm.Blocks k (L.drop b) D2) ∧ w.grownBy w2 (some g) ∧ b = a + 2 * k) := (by
                obtain ⟨⟨j, hj⟩, hb, _, hG⟩ := HI.out
                have hst := stab_two HB.out.1 HB.out.2 ⟨j, hj⟩ hb (by rw [HN.out]; exact haN) hs hp HS.out
                exact ⟨⟨j + 1, by rw [hb, hj, Nat.mul_add, Nat.mul_one]⟩, ⟨D1 ++ M, D2.drop (2 * k), hr, hst.1, hst.2⟩, hG.trans hg, hb⟩ : _ ∧ _)
              have hba : a < b := by have := HI2.out.2.2.2; omega
              have hbk : b + 2 * k ≤ 4000000 := by omega
              have hk2n : k2 = 2 * k := HKK.out
              obtain ⟨b2, hb2e⟩ : ∃ b2, b2 = b + k2 := ⟨_, rfl⟩
              have hbI : (b : Int) + (k2 : Int) = (b2 : Int) := by omega
              have hb24 : b2 ≤ 4000000 := by omega
              have HK2 : Hid (b2 = b + 2 * k) := (by rw [hb2e, hk2n] : _ = _)
              clear hr hp hs hg HB HC1 HI hk2n hb2e
              go_wp2
              go_roundw
              case rel => exact ⟨b, b2, rfl, rfl, hbN, hb24, HI2.out.1, HK2.out, HI2.out.2.1, HI2.out.2.2.1⟩
              case measure => simp [intOf]; omega
            · have hbI : ¬ (b : Int) ≤ (N : Int) := by omega
              by_cases hmN : m < N
              · have HC : Hid (∃ D1 D2, Gm.Blocks (2 * k) (L.take a) D1 ∧ Gm.Blocks k (L.drop a) D2 ∧ (D2.drop k).take k = D2.drop k ∧ SymC D1 (D2.take k) (D2.drop k) [] a m N N g cap wr) := (by
                  obtain ⟨ht, hb, ⟨D1, D2, hR, hB, hB2⟩, hG⟩ := HI.out
                  have h2 := Gm.blocks_two hB2 (strict_drop HS.out a)
                  have hmm := HMM.out
                  have l1 : D1.length = a := by rw [hB.1, List.length_take, HN.out]; omega
                  have l2 : D2.length = N - a := by rw [hB2.1, List.length_drop, HN.out]
                  have e0 : (D2.drop k).take k = D2.drop k := List.take_of_length_le (by rw [List.length_drop, l2]; omega)
                  rw [e0] at h2
                  refine ⟨D1, D2, hB, hB2, e0, symm_all _ _ _ _ _ _ _ _ _ _ _ _ (Nat.le_refl _) hl ⟨?_, l1, ?_, ?_, ?_, h2.1, h2.2.1, h2.2.2.2.2, ?_, ?_⟩⟩
                  · rw [List.append_nil, List.append_assoc, List.take_append_drop]; exact hR
                  · rw [List.length_take, l2]; omega
                  · rw [List.length_drop, l2]; omega
                  · simp
                  · intro e; have := congrArg List.length e; rw [List.length_take, l2, List.length_nil] at this; omega
                  · intro e; have := congrArg List.length e; rw [List.length_drop, l2, List.length_nil] at this; omega : ∃ D1 D2, _)
                obtain ⟨D1, D2, hB, hB2, he0, hC⟩ := HC.out
                have HB : Hid _ := And.intro hB (And.intro hB2 he0)
                have HC1 : Hid (Calls Tryz.prog 128 _ wr _) := hC
                clear HC hB hB2 hC he0
                go_wp2_with fail
                refine (Calls.mono HC1.out ?_)
                rintro e w2 ⟨rfl, ⟨M, hr, hp, hs⟩, hg⟩
                have HI2 : Hid ((∃ D, RowE w2 g cap D ∧ Gm.Blocks (2 * k) L D) ∧ w.grownBy w2 (some g)) := (by
                  obtain ⟨ht, hb, _, hG⟩ := HI.out
                  have h2 := Gm.blocks_two HB.out.2.1 (strict_drop HS.out a)
                  rw [HB.out.2.2] at h2
                  have e5 : (L.drop a).take k ++ ((L.drop a).drop k).take k = L.drop a := by
                    rw [List.take_of_length_le (l := (L.drop a).drop k) (by rw [List.length_drop, List.length_drop, HN.out]; omega), List.take_append_drop]
                  have hpp : M.Perm (L.drop a) := hp.trans (by rw [← e5]; exact h2.2.2.1.append h2.2.2.2.1)
                  exact ⟨⟨D1 ++ M, by simpa using hr, stab_last HB.out.1 ht (by rw [HN.out]; exact haN) (by rw [HN.out]; omega) hs hpp⟩, hG.trans hg⟩ : _ ∧ _)
                have hkk : (k : Int) * 2 = ((2 * k : Nat) : Int) := by omega
                clear hr hp hs hg HB HC1 HI
                go_wp2
                go_roundw
                case rel => exact ⟨2 * k, by go_num, by omega, by omega, HI2.out⟩
                case measure => simp [intOf]; omega
              · have hmNI : ¬ (m : Int) < (N : Int) := by omega
                have HI2 : Hid ((∃ D, RowE wr g cap D ∧ Gm.Blocks (2 * k) L D) ∧ w.grownBy wr (some g)) := (by
                  obtain ⟨ht, hb, ⟨D1, D2, hR, hB, hB2⟩, hG⟩ := HI.out
                  have hmm := HMM.out
                  have h1 := Gm.blocks_one hB2 (by rw [List.length_drop, HN.out]; omega)
                  exact ⟨⟨D1 ++ D2, hR, stab_last hB ht (by rw [HN.out]; exact haN) (by rw [HN.out]; omega) h1.1 h1.2⟩, hG⟩ : _ ∧ _)
                have hkk : (k : Int) * 2 = ((2 * k : Nat) : Int) := by omega
                clear HI
                go_wp2
                go_roundw
                case rel => exact ⟨2 * k, by go_num, by omega, by omega, HI2.out⟩
                case measure => simp [intOf]; omega
        · have HE : Hid ((∃ R, RowE wr g cap R ∧ R.Perm L ∧ Gm.S2 R) ∧ w.grownBy wr (some g)) := (by
            obtain ⟨⟨D, hR, hB⟩, hG⟩ := HK.out
            have h1 := Gm.blocks_one hB (by rw [HN.out]; omega)
            exact ⟨⟨D, hR, h1.2, h1.1⟩, hG⟩ : _ ∧ _)
          have hkI : ¬ (k : Int) < (N : Int) := by omega
          clear HK
          go_wp2
          go_end0
          exact ⟨rfl, HE.out⟩
end Go.Proofs.YtphjbbbnbmafnabGreatDoor.G

namespace Go.Proofs.YtphjbbbnbmafnabGreatDoor.G
open Go.RowKit

set_option maxHeartbeats 1000000 in
set_option maxRecDepth 100000 in
theorem ins_nil (w : World) (cv : Value) : Calls Tryz.prog 120 #[.slice none 0 0, .int .i64 0, .int .i64 0, cv] w fun e w' => e = .returned (.tuple #[]) ∧ w' = w := by
  go_enter Tryz.func120, Tryz.ntmps120
  go_wp2
  go_loopw [8] (fun si wr => si = .int .i64 1 ∧ wr = w) (fun _ _ => 0)
  case atStart => exact ⟨rfl, rfl⟩
  case round =>
    obtain ⟨rfl, rfl⟩ := hrel
    go_wp2
    go_end0
    exact ⟨rfl, rfl⟩
set_option maxHeartbeats 1000000 in
set_option maxRecDepth 100000 in
theorem stable_nil (w : World) (cv : Value) : Calls Tryz.prog 106 #[.slice none 0 0, .int .i64 0, cv] w fun e w' => e = .returned (.tuple #[]) ∧ w' = w := by
  have HC : Hid (Calls Tryz.prog 120 _ w _) := ins_nil w cv
  go_enter Tryz.func106, Tryz.ntmps106
  go_wp2
  go_loopw [7, 8] (fun sa sb wr => sa = .int .i64 0 ∧ sb = .int .i64 20 ∧ wr = w) (fun _ _ _ => 0)
  case atStart => exact ⟨rfl, rfl, rfl⟩
  case round =>
    obtain ⟨rfl, rfl, hw⟩ := hrel
    rw [hw]
    clear hw wr
    go_wp2_with fail
    refine (Calls.mono HC.out ?_)
    rintro e w2 ⟨rfl, hw⟩
    rw [hw]
    clear hw w2
    go_wp2
    go_loopw [6] (fun sk wr => sk = .int .i64 20 ∧ wr = w) (fun _ _ => 0)
    case atStart => exact ⟨rfl, rfl⟩
    case round =>
      obtain ⟨rfl, hw⟩ := hrel
      rw [hw]
      clear hw wr
      go_wp2
      go_end0
      exact ⟨rfl, rfl⟩
set_option maxHeartbeats 1000000 in
set_option maxRecDepth 100000 in
theorem sorts_own (l : List E3) (base : Nat) (v : Value) (W : World) (hrow : W.ownsRow base 41 3 v l.length (flat l)) (hl : l.length ≤ 1000000) (hL : Gm.Strict l) :
    Calls Tryz.prog 79 #[v, .func (.func 49) #[] #[]] W fun e w' => e = .returned (.tuple #[]) ∧ (∃ R, R.Perm l ∧ Gm.S2 R ∧ w'.ownsRow base 41 3 v R.length (flat R)) ∧ W.grownBy w' v.ownBlock := by
  rcases hrow.2 with ⟨rfl, h0⟩ | ⟨g, cap, cur, rfl, hbase, hgb, r1, r2, r3, r4⟩
  · obtain rfl : l = [] := List.eq_nil_of_length_eq_zero h0
    have HC : Hid (Calls Tryz.prog 106 _ W _) := stable_nil W (.func (.func 49) #[] #[])
    clear hrow
    go_enter Tryz.func79, Tryz.ntmps79
    go_wp2_with fail
    refine (Calls.mono HC.out ?_)
    rintro e w2 ⟨rfl, hw⟩
    rw [hw]
    clear hw w2
    go_wp2
    go_end0
    exact ⟨rfl, ⟨[], List.Perm.refl _, List.Pairwise.nil, World.ownsRow_nil _ _ _ _⟩, ⟨rfl, rfl, rfl, Nat.le_refl _, fun _ _ _ => rfl⟩⟩
  · have HC : Hid (Calls Tryz.prog 106 _ W _) := stable_any l l.length g cap W ⟨cur, hgb, r3, r4⟩ hL rfl hl
    clear hrow hgb r3 r4
    go_enter Tryz.func79, Tryz.ntmps79
    go_wp2_with fail
    refine (Calls.mono HC.out ?_)
    rintro e w2 ⟨rfl, ⟨R, ⟨cur2, k1, k2, k3⟩, hp, hs⟩, hg⟩
    have HE : Hid ((∃ R : List E3, R.Perm l ∧ Gm.S2 R ∧ w2.ownsRow base 41 3 (.slice (some ⟨g, 0, none⟩) l.length cap) R.length (flat R)) ∧ W.grownBy w2 (some g)) := (by
      have e := hp.length_eq
      refine ⟨⟨R, hp, hs, ⟨by rw [flat_len], .inr ⟨g, cap, cur2, by rw [e], hbase, k1, by rw [e]; exact r1, r2, k2, k3⟩⟩⟩, hg⟩ : _ ∧ _)
    clear k1 k2 k3 hp hs hg
    go_wp2
    go_end0
    exact ⟨rfl, HE.out.1, HE.out.2⟩
end Go.Proofs.YtphjbbbnbmafnabGreatDoor.G

namespace Go.Proofs.YtphjbbbnbmafnabGreatDoor.G
open Go.RowKit

set_option maxHeartbeats 1000000 in
theorem sortedst_any (Bs : Nat) (v0 : Value) (zs : List E3) (hz : zs.length ≤ 1000000) (hL : Gm.Strict zs) (w : World) (hBs : Bs < w.heap.size) (hc : w.cell? ⟨Bs, 0, none⟩ = some v0) (hI : EdgesAt w v0 zs) (hlow : ∀ a0 len cap, v0 = .slice (some a0) len cap → zs ≠ [] → a0.block < w.heap.size) :
    Calls Tryz.prog 48 #[.func (.func 71) #[] #[.pointer (some ⟨Bs, 0, none⟩)], .func (.func 49) #[] #[]] w fun e w' => ∃ v R, e = .returned v ∧ w'.ownsRow w.heap.size 41 3 v R.length (flat R) ∧ R.Perm zs ∧ Gm.S2 R ∧ Below w.heap.size w w' := by
  have HA : Hid (Calls Tryz.prog 69 _ w _) := collect_any Bs v0 zs hz w hBs hc hI hlow
  go_enter Tryz.func48, Tryz.ntmps48
  go_wp2_with fail
  refine (Calls.mono HA.out ?_)
  rintro e w1 ⟨v, rfl, hrow, hB⟩
  have HS : Hid (Calls Tryz.prog 79 _ w1 _) := sorts_own zs w.heap.size v w1 hrow hz hL
  have HB : Hid (∀ k, v.ownBlock = some k → w.heap.size ≤ k) := (fun k hk => (hrow.lt k hk).1 : ∀ k, v.ownBlock = some k → w.heap.size ≤ k)
  have HBe : Hid _ := hB
  clear hrow hB
  go_wp2_with fail
  refine (Calls.mono HS.out ?_)
  rintro e w2 ⟨rfl, ⟨R, hp, hs, hrow2⟩, hg2⟩
  go_wp2
  go_ret
  exact ⟨v, R, rfl, hrow2, hp, hs, HBe.out.grown hg2 HBe.out.size HB.out⟩
end Go.Proofs.YtphjbbbnbmafnabGreatDoor.G

namespace Go.Proofs.YtphjbbbnbmafnabGreatDoor.G
open Go.RowKit

/-- a graph as it lies -/
structure GraphAt (w : World) (b : Nat) (n s : Nat) (L : List E3) : Prop where
  ok : okG n s L
  st : Gm.Strict L
  sz0 : w.cell? ⟨b, 0, none⟩ = some (.int .i64 (n : Int))
  sz1 : w.cell? ⟨b, 1, none⟩ = some (.int .i64 (s : Int))
  sz2 : w.cell? ⟨b, 2, none⟩ = some (.int .i64 (L.length : Int))
  src : ∃ bb bw ba W, w.cell? ⟨b, 3, none⟩ = some (.pointer (some ⟨bb, 0, none⟩)) ∧ BitsAt w bb bw ba (bf (srcs L n)) (srcs L n).length W
  lab : ∃ bl gl, w.cell? ⟨b, 4, none⟩ = some (.pointer (some ⟨bl, 0, none⟩)) ∧ SeqAt 8 w bl gl (labs L)
  tgt : ∃ R bt gt, w.cell? ⟨b, 5, none⟩ = some (.pointer (some ⟨bt, 0, none⟩)) ∧ SeqAt 16 w bt gt (tos R) ∧ R.Perm L ∧ Gm.S2 R
theorem GraphAt.kept {w w' : World} {b n s : Nat} {L : List E3} (h : GraphAt w b n s L) (hk : ∀ p v, w.cell? p = some v → w'.cell? p = some v) : GraphAt w' b n s L := by
  obtain ⟨bb, bw, ba, W, h1, h2⟩ := h.src
  obtain ⟨bl, gl, h3, h4⟩ := h.lab
  obtain ⟨R, bt, gt, h5, h6, h7⟩ := h.tgt
  exact ⟨h.ok, h.st, hk _ _ h.sz0, hk _ _ h.sz1, hk _ _ h.sz2, ⟨bb, bw, ba, W, hk _ _ h1, h2.kept hk⟩, ⟨bl, gl, hk _ _ h3, h4.kept hk⟩, ⟨R, bt, gt, hk _ _ h5, h6.kept hk, h7⟩⟩
theorem GraphAt.below {w w' : World} {b n s : Nat} {L : List E3} (h : GraphAt w b n s L) (hB : Below w.heap.size w w') : GraphAt w' b n s L := h.kept (cell_kept hB)

/-! ### what a store over a nil pointer keeps -/
abbrev KeepN (w w' : World) : Prop := ∀ p v, w.cell? p = some v → v ≠ .pointer none → w'.cell? p = some v
theorem set_nil {w : World} {q : Addr} (h : w.cell? q = some (.pointer none)) (u : Value) : KeepN w (w.setCell q u) := fun p v hp hv => by
  rw [World.cell?_setCell_other w q p u (fun e => by subst e; rw [h] at hp; cases hp; exact hv rfl)]
  exact hp
theorem bits_nn {w w' : World} {b bw ba n : Nat} {f : Nat → Bool} {W : Nat → Nat} (hb : BitsAt w b bw ba f n W) (h : KeepN w w') : BitsAt w' b bw ba f n W :=
  ⟨hb.hn, h _ _ hb.len (by simp), h _ _ hb.ones (by simp), h _ _ hb.words (by simp), h _ _ hb.ahead (by simp), fun j hj => h _ _ (hb.word j hj) (by simp), fun j hj => h _ _ (hb.ahd j hj) (by simp), hb.wlt, hb.wbit, hb.out⟩
theorem seq_nn {B : Nat} {w w' : World} {b g : Nat} {l : List Nat} (hs : SeqAt B w b g l) (h : KeepN w w') : SeqAt B w' b g l :=
  ⟨hs.hn, hs.lt, h _ _ hs.len (by simp), h _ _ hs.levels (by simp), fun d hd => by
    obtain ⟨bb, bw, ba, W, h1, h2⟩ := hs.level d hd
    exact ⟨bb, bw, ba, W, h _ _ h1 (by simp), bits_nn h2 h⟩⟩
theorem bitOf_txt (l : List Bool) : bitOf (txt l) = bf l := by
  funext i
  unfold bitOf bf txt
  simp only [List.getD_eq_getElem?_getD, List.getElem?_map]
  cases l[i]? with
  | none => rfl
  | some b => cases b <;> rfl
theorem okB_txt (l : List Bool) (h : l.length ≤ 100000) : okB (txt l) = true := by
  unfold okB
  rw [Bool.and_eq_true, decide_eq_true_eq, txt_size]
  refine ⟨h, ?_⟩
  unfold txt
  rw [List.all_eq_true]
  intro x hx
  simp only [List.mem_map] at hx
  obtain ⟨b, _, rfl⟩ := hx
  cases b <;> rfl
/-- the first cells of a block -/
theorem cell_new (w : World) (xs : Array Value) (t : TypeId) (i : Nat) : (w.alloc (.cells xs t)).cell? ⟨w.heap.size, i, none⟩ = xs[i]? := by
  rw [cell_of_row _ _ i _ _ _ (heap_alloc_new w (.cells xs t))]
theorem numE8 (e : E3) : S8.numE e = e.2.1 := rfl
theorem numE16 (e : E3) : S16.numE e = e.2.2 := rfl
set_option maxHeartbeats 4000000 in
set_option maxRecDepth 100000 in
theorem newgraph_any (n s : Nat) (L : List E3) (v : Value) (w : World) (he : EdgesAt w v L) (hok : okG n s L) (hst : Gm.Strict L) :
    Calls Tryz.prog 23 #[.int .i64 (n : Int), .int .i64 (s : Int), v] w fun e w' => ∃ b, e = .returned (.pointer (some ⟨b, 0, none⟩)) ∧ GraphAt w' b n s L ∧ Below w.heap.size w w' := by
  have HE : Hid _ := he
  obtain ⟨a0, cap, rfl, hed⟩ := he
  have HOk : Hid _ := hok
  have HSt : Hid _ := hst
  obtain ⟨⟨g1, g2, g3, g4, g5⟩, hall⟩ := hok
  have h0 := Gm.ah_zero L (fun e h => (hall e h).1)
  have hlen := (srcs_all L n (fun e h => ⟨(hall e h).1, (hall e h).2.1⟩)).2
  have hlow : Hid (∀ b0 : Addr, ∀ W : World, w.heap.size ≤ W.heap.size → some b0 = a0 → L ≠ [] → b0.block < W.heap.size) := (by
    intro b0 W hW e hne
    cases L with
    | nil => exact absurd rfl hne
    | cons z zs =>
      obtain ⟨g, off, e2, c0, _⟩ := hed 0 z rfl
      rw [e2] at e
      cases e
      have := World.block_lt_of_cell? _ _ c0
      simp at this ⊢
      omega : ∀ b0 : Addr, _)
  have hB0 := below1 w (.cells #[.int .i64 (n : Int), .int .i64 (s : Int), .int .i64 (L.length : Int), .pointer none, .pointer none, .pointer none] 61)
  have HS : Hid (Calls Tryz.prog 35 _ (w.alloc (.cells #[.int .i64 (n : Int), .int .i64 (s : Int), .int .i64 (L.length : Int), .pointer none, .pointer none, .pointer none] 61)) _) := srctext_any n L _ _ (EdgesAt.below HE.out hB0) (Gm.strict_rising hst) h0 (by omega) (by omega)
  have HB0 : Hid _ := hB0
  have HLen : Hid _ := hlen
  have HAll : Hid _ := hall
  clear hB0 h0 hed hall hst hlen
  go_enter Tryz.func23, Tryz.ntmps23
  go_wp2_with fail
  refine (Calls.mono HS.out ?_)
  rintro e w1 ⟨rfl, hB1⟩
  have HNB : Hid (Calls Tryz.prog 44 _ w1 (NewPost (txt (srcs L n)) w1)) := new_any (txt (srcs L n)) w1 (by rw [txt_size, HLen.out]; omega)
  have HB1 : Hid _ := hB1
  clear hB1 HS
  go_wp2_with fail
  refine (Calls.mono HNB.out ?_)
  rintro e w2 ⟨hB2, ⟨hno, _⟩ | ⟨_, bb, bw, ba, W, rfl, hbits⟩⟩
  · rw [okB_txt _ (by rw [HLen.out]; omega)] at hno; cases hno
  rw [bitOf_txt, txt_size] at hbits
  have hb2 : Below (w.alloc (.cells #[.int .i64 (n : Int), .int .i64 (s : Int), .int .i64 (L.length : Int), .pointer none, .pointer none, .pointer none] 61)).heap.size (w.alloc (.cells #[.int .i64 (n : Int), .int .i64 (s : Int), .int .i64 (L.length : Int), .pointer none, .pointer none, .pointer none] 61)) w2 := chain HB1.out hB2
  have hg2 : w2.heap[w.heap.size]? = some (.cells #[.int .i64 (n : Int), .int .i64 (s : Int), .int .i64 (L.length : Int), .pointer none, .pointer none, .pointer none] 61 (0, 0)) := (hb2.block _ (by simp)).trans (heap_alloc_new _ _)
  have c3 : w2.cell? ⟨w.heap.size, 3, none⟩ = some (.pointer none) := by rw [cell_of_row w2 _ 3 _ _ _ hg2]; rfl
  have f3 := frozen_of_row w2 _ 3 _ _ hg2
  have HB3 : Hid (Below w.heap.size w (w2.setCell ⟨w.heap.size, 3, none⟩ (.pointer (some ⟨bb, 0, none⟩)))) := ((chain HB0.out hb2).setCell (Nat.le_refl _) _)
  have HG3 : Hid ((w2.setCell ⟨w.heap.size, 3, none⟩ (.pointer (some ⟨bb, 0, none⟩))).heap[w.heap.size]? = some (.cells #[.int .i64 (n : Int), .int .i64 (s : Int), .int .i64 (L.length : Int), .pointer (some ⟨bb, 0, none⟩), .pointer none, .pointer none] 61 (0, 0))) := (by
    rw [heap_setCell_same w2 _ 3 _ _ _ hg2]; rfl : _ = _)
  have HBi : Hid _ := bits_nn hbits (set_nil c3 (.pointer (some ⟨bb, 0, none⟩)))
  have HN8 : Hid (Calls Tryz.prog 46 _ _ _) := S8.numsof_any L _ _ (EdgesAt.below HE.out HB3.out) (by omega) (fun e h => by have := HAll.out e h; rw [numE8]; omega)
  clear hB2 hbits hb2 hg2 HNB HB1 HB0
  go_wp2_with fail
  refine (Calls.mono HN8.out ?_)
  rintro e w4 ⟨v4, rfl, hnum4, hB4⟩
  have HS8 : Hid (Calls Tryz.prog 45 _ w4 _) := S8.newseq_any hnum4 (fun x hx => by
    obtain ⟨e, he, rfl⟩ := List.mem_map.1 hx
    have := HAll.out e he
    omega) (by simp [labs]; omega)
  have HB4 : Hid _ := hB4
  clear hB4 HN8 c3 f3
  go_wp2_with fail
  refine (Calls.mono HS8.out ?_)
  rintro e w5 ⟨bl, gl, rfl, hseq, hB5⟩
  have hb5 := chain HB4.out hB5
  have hg5 := (hb5.block w.heap.size (Array.getElem?_eq_some_iff.1 HG3.out).1).trans HG3.out
  have c4 : w5.cell? ⟨w.heap.size, 4, none⟩ = some (.pointer none) := by rw [cell_of_row w5 _ 4 _ _ _ hg5]; rfl
  have f4 := frozen_of_row w5 _ 4 _ _ hg5
  have HB6 : Hid (Below w.heap.size w (w5.setCell ⟨w.heap.size, 4, none⟩ (.pointer (some ⟨bl, 0, none⟩)))) := ((chain HB3.out hb5).setCell (Nat.le_refl _) _)
  have HG6 : Hid ((w5.setCell ⟨w.heap.size, 4, none⟩ (.pointer (some ⟨bl, 0, none⟩))).heap[w.heap.size]? = some (.cells #[.int .i64 (n : Int), .int .i64 (s : Int), .int .i64 (L.length : Int), .pointer (some ⟨bb, 0, none⟩), .pointer (some ⟨bl, 0, none⟩), .pointer none] 61 (0, 0))) := (by
    rw [heap_setCell_same w5 _ 4 _ _ _ hg5]; rfl : _ = _)
  have HBi6 : Hid _ := bits_nn (HBi.out.below hb5) (set_nil c4 (.pointer (some ⟨bl, 0, none⟩)))
  have HSe6 : Hid _ := seq_nn hseq (set_nil c4 (.pointer (some ⟨bl, 0, none⟩)))
  have HV : Hid (Calls Tryz.prog 39 _ (w5.setCell ⟨w.heap.size, 4, none⟩ (.pointer (some ⟨bl, 0, none⟩))) _) := callsIn_wide.1 (values_in Fence.wide 9 trivial rfl a0 L.length cap _)
  have hbv := below1 (w5.setCell ⟨w.heap.size, 4, none⟩ (.pointer (some ⟨bl, 0, none⟩))) (.cells #[.slice a0 L.length cap] 27)
  have hcv : ((w5.setCell ⟨w.heap.size, 4, none⟩ (.pointer (some ⟨bl, 0, none⟩))).alloc (.cells #[.slice a0 L.length cap] 27)).cell? ⟨w5.heap.size, 0, none⟩ = some (.slice a0 L.length cap) := by
    have h := cell_new (w5.setCell ⟨w.heap.size, 4, none⟩ (.pointer (some ⟨bl, 0, none⟩))) #[.slice a0 L.length cap] 27 0
    rw [World.size_setCell] at h
    exact h
  have HSt2 : Hid (Calls Tryz.prog 48 _ ((w5.setCell ⟨w.heap.size, 4, none⟩ (.pointer (some ⟨bl, 0, none⟩))).alloc (.cells #[.slice a0 L.length cap] 27)) _) := sortedst_any w5.heap.size (.slice a0 L.length cap) L (by omega) HSt.out _ (by rw [World.size_alloc, World.size_setCell]; omega) hcv (EdgesAt.below HE.out (chain HB6.out hbv)) (fun b0 len2 cap2 e hne => hlow.out b0 _ (chain HB6.out hbv).size (by cases e; rfl) hne)
  have HBv : Hid _ := hbv
  clear hB5 hb5 hg5 HS8 HB4 HBi HG3 HB3 hseq hnum4 hbv hcv
  go_wp2_with fail
  refine (Calls.mono HV.out ?_)
  rintro e w7 ⟨rfl, hw7⟩
  rw [hw7]
  clear hw7 w7 HV
  go_wp2_with fail
  refine (Calls.mono HSt2.out ?_)
  rintro e w8 ⟨v8, R, rfl, hrow8, hperm, hs2, hB8⟩
  have hE8 : EdgesAt w8 v8 R := ownE_edges hrow8
  have hRl := hperm.length_eq
  have HN16 : Hid (Calls Tryz.prog 51 _ w8 _) := S16.numsof_any R v8 w8 hE8 (by omega) (fun e h => by have := HAll.out e (hperm.mem_iff.1 h); rw [numE16]; omega)
  have HB8 : Hid _ := chain HBv.out hB8
  have HP : Hid _ := hperm
  have HS2 : Hid _ := hs2
  have HRl : Hid _ := hRl
  clear hE8 hrow8 hB8 HSt2 hperm hs2 hRl
  go_wp2_with fail
  refine (Calls.mono HN16.out ?_)
  rintro e w9 ⟨v9, rfl, hnum9, hB9⟩
  have HS16 : Hid (Calls Tryz.prog 50 _ w9 _) := S16.newseq_any hnum9 (fun x hx => by
    obtain ⟨e, he, rfl⟩ := List.mem_map.1 hx
    have := HAll.out e (HP.out.mem_iff.1 he)
    omega) (by have := HRl.out; simp [tos]; omega)
  have HB9 : Hid _ := chain HB8.out hB9
  clear hB9 HN16 HB8
  go_wp2_with fail
  refine (Calls.mono HS16.out ?_)
  rintro e w10 ⟨bt, gt, rfl, hseq, hB10⟩
  have hb10 := chain HB9.out hB10
  have hg10 := (hb10.block w.heap.size (Array.getElem?_eq_some_iff.1 HG6.out).1).trans HG6.out
  have c5 : w10.cell? ⟨w.heap.size, 5, none⟩ = some (.pointer none) := by rw [cell_of_row w10 _ 5 _ _ _ hg10]; rfl
  have f5 := frozen_of_row w10 _ 5 _ _ hg10
  have HB11 : Hid (Below w.heap.size w (w10.setCell ⟨w.heap.size, 5, none⟩ (.pointer (some ⟨bt, 0, none⟩)))) := ((chain HB6.out hb10).setCell (Nat.le_refl _) _)
  have hg11 : (w10.setCell ⟨w.heap.size, 5, none⟩ (.pointer (some ⟨bt, 0, none⟩))).heap[w.heap.size]? = some (.cells #[.int .i64 (n : Int), .int .i64 (s : Int), .int .i64 (L.length : Int), .pointer (some ⟨bb, 0, none⟩), .pointer (some ⟨bl, 0, none⟩), .pointer (some ⟨bt, 0, none⟩)] 61 (0, 0)) := (by
    rw [heap_setCell_same w10 _ 5 _ _ _ hg10]; rfl : _ = _)
  have hk := set_nil c5 (.pointer (some ⟨bt, 0, none⟩))
  have HGr : Hid (GraphAt (w10.setCell ⟨w.heap.size, 5, none⟩ (.pointer (some ⟨bt, 0, none⟩))) w.heap.size n s L) := (
    ⟨HOk.out, HSt.out, by rw [cell_of_row _ _ 0 _ _ _ hg11]; rfl, by rw [cell_of_row _ _ 1 _ _ _ hg11]; rfl, by rw [cell_of_row _ _ 2 _ _ _ hg11]; rfl,
      ⟨bb, bw, ba, W, by rw [cell_of_row _ _ 3 _ _ _ hg11]; rfl, bits_nn (HBi6.out.below hb10) hk⟩,
      ⟨bl, gl, by rw [cell_of_row _ _ 4 _ _ _ hg11]; rfl, seq_nn (HSe6.out.below hb10) hk⟩,
      ⟨R, bt, gt, by rw [cell_of_row _ _ 5 _ _ _ hg11]; rfl, seq_nn hseq hk, HP.out, HS2.out⟩⟩ : GraphAt _ _ _ _ _)
  clear hb10 hg10 hg11 hk hseq hB10 hnum9
  go_wp2
  go_ret
  exact ⟨_, rfl, HGr.out, HB11.out⟩
end Go.Proofs.YtphjbbbnbmafnabGreatDoor.G
