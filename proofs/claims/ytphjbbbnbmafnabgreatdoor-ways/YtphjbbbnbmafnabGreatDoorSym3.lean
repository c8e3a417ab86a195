/-
  slices' symMerge over a block of edges, by compareLabels, where both sides have two and more: the sides are parted and turned, and each half is merged; nothing else is written.
-/
import Derived.Test.YtphjbbbnbmafnabGreatDoorSym2
import Derived.Test.YtphjbbbnbmafnabGreatDoorGMath
namespace Go.Proofs.YtphjbbbnbmafnabGreatDoor.G
open Go.RowKit

/-- what symMerge is called with -/
def SymP (X A B Y : List E3) (a m b N g cap : Nat) (w : World) : Prop := RowE w g cap (X ++ A ++ B ++ Y) ∧ X.length = a ∧ a + A.length = m ∧ m + B.length = b ∧ b + Y.length = N ∧ Gm.S2 A ∧ Gm.S2 B ∧ (∀ x ∈ A, ∀ y ∈ B, Gm.ltE x y = true) ∧ A ≠ [] ∧ B ≠ []
/-- and what it does -/
def SymC (X A B Y : List E3) (a m b N g cap : Nat) (w : World) : Prop := Calls Tryz.prog 128 #[.slice (some ⟨g, 0, none⟩) N cap, .int .i64 (a : Int), .int .i64 (m : Int), .int .i64 (b : Int), .func (.func 49) #[] #[]] w fun e w' => e = .returned (.tuple #[]) ∧ (∃ M, RowE w' g cap (X ++ M ++ Y) ∧ M.Perm (A ++ B) ∧ Gm.S2 M) ∧ w.grownBy w' (some g)
theorem sym_pure {A B : List E3} {a m b s mid s0 r0 : Nat} (hA : a + A.length = m) (hB : m + B.length = b) (hSA : Gm.S2 A) (hSB : Gm.S2 B) (hbef : ∀ x ∈ A, ∀ y ∈ B, Gm.ltE x y = true)
    (hE : a ≤ s0 ∧ r0 ≤ m ∧ r0 ≤ mid ∧ mid + m ≤ s0 + b ∧ (s0 = a ∨ s0 + b = mid + m) ∧ (r0 = m ∨ r0 = mid)) (hs0 : s0 ≤ s) (hr0 : s ≤ r0)
    (P1 : ∀ c x y, s0 ≤ c → c < s → A[c - a]? = some x → B[mid + m - 1 - c - m]? = some y → x.2.1 ≤ y.2.1) (P2 : ∀ c x y, s ≤ c → c < r0 → A[c - a]? = some x → B[mid + m - 1 - c - m]? = some y → y.2.1 < x.2.1)
    (M1 M2 : List E3) (p1 : M1.Perm (A.take (s - a) ++ B.take (mid - s))) (p2 : M2.Perm (A.drop (s - a) ++ B.drop (mid - s))) (s1 : Gm.S2 M1) (s2 : Gm.S2 M2) : Gm.S2 (M1 ++ M2) ∧ (M1 ++ M2).Perm (A ++ B) := by
  have eA := List.take_append_drop (s - a) A
  have eB := List.take_append_drop (mid - s) B
  constructor
  · refine Gm.s2_halves (A.take (s - a)) (A.drop (s - a)) (B.take (mid - s)) (B.drop (mid - s)) M1 M2 (by rw [eA]; exact hSA) (by rw [eB]; exact hSB) (by rw [eA, eB]; exact hbef) (fun x hx y hy => ?_) (fun y hy x hx => ?_) p1 p2 s1 s2
    · obtain ⟨t, ht, hxt⟩ := mem_take_at hx
      obtain ⟨u, hu, hyu⟩ := mem_drop_at hy
      have hxl := len_of hxt
      have hyl := len_of hyu
      rcases Nat.lt_or_ge s0 s with hlt | hge
      · obtain ⟨x', hx'⟩ : ∃ x', A[s - 1 - a]? = some x' := ⟨_, List.getElem?_eq_getElem (by omega)⟩
        obtain ⟨y', hy'⟩ : ∃ y', B[mid - s]? = some y' := ⟨_, List.getElem?_eq_getElem (by omega)⟩
        have k1 := P1 (s - 1) x' y' (by omega) (by omega) hx' (by rw [show mid + m - 1 - (s - 1) - m = mid - s by omega]; exact hy')
        have k2 := s2_lab hSA hxt hx' (by omega)
        have k3 := s2_lab hSB hy' hyu (by omega)
        omega
      · omega
    · obtain ⟨t, ht, hyt⟩ := mem_take_at hy
      obtain ⟨u, hu, hxu⟩ := mem_drop_at hx
      have hyl := len_of hyt
      have hxl := len_of hxu
      rcases Nat.lt_or_ge s r0 with hlt | hge
      · obtain ⟨x', hx'⟩ : ∃ x', A[s - a]? = some x' := ⟨_, List.getElem?_eq_getElem (by omega)⟩
        obtain ⟨y', hy'⟩ : ∃ y', B[mid - 1 - s]? = some y' := ⟨_, List.getElem?_eq_getElem (by omega)⟩
        have k1 := P2 s x' y' (by omega) (by omega) hx' (by rw [show mid + m - 1 - s - m = mid - 1 - s by omega]; exact hy')
        have k2 := s2_lab hSA hx' hxu (by omega)
        have k3 := s2_lab hSB hyt hy' (by omega)
        omega
      · omega
  · have h := Gm.perm4 (A.take (s - a)) (A.drop (s - a)) (B.take (mid - s)) (B.drop (mid - s)) M1 M2 p1 p2
    rw [eA, eB] at h
    exact h
set_option maxHeartbeats 16000000 in
set_option maxRecDepth 100000 in
theorem symm_gen (X A B Y : List E3) (a m b N g cap : Nat) (w : World) (h : SymP X A B Y a m b N g cap w) (hA2 : 2 ≤ A.length) (hB2 : 2 ≤ B.length) (hl : N ≤ 1000000)
    (IH : ∀ (X' A' B' Y' : List E3) (a' m' b' : Nat) (w' : World), A'.length + B'.length < A.length + B.length → SymP X' A' B' Y' a' m' b' N g cap w' → SymC X' A' B' Y' a' m' b' N g cap w') : SymC X A B Y a m b N g cap w := by
  obtain ⟨hR, ha, hm, hb, hN, hSA, hSB, hbef, _, _⟩ := h
  have hma : ((m : Int) - (a : Int) == 1) = false := by simpa using (by omega : ¬ (m : Int) - (a : Int) = 1)
  have hmb : ((b : Int) - (m : Int) == 1) = false := by simpa using (by omega : ¬ (b : Int) - (m : Int) = 1)
  have H0 : Hid _ := hR
  have HSA : Hid _ := hSA
  have HSB : Hid _ := hSB
  have HB : Hid _ := hbef
  have HL : Hid _ := And.intro ha (And.intro hm (And.intro hb (And.intro hN (And.intro hA2 hB2))))
  have hAat : ∀ t z, A[t]? = some z → (X ++ A ++ B ++ Y)[a + t]? = some z := fun t z hz => by
    have ht := len_of hz
    rw [List.getElem?_append_left (by simp; omega), List.getElem?_append_left (by simp; omega), List.getElem?_append_right (by omega)]
    rw [show a + t - X.length = t by omega]; exact hz
  have hBat : ∀ t z, B[t]? = some z → (X ++ A ++ B ++ Y)[m + t]? = some z := fun t z hz => by
    have ht := len_of hz
    rw [List.getElem?_append_left (by simp; omega), List.getElem?_append_right (by simp; omega)]
    rw [show m + t - (X ++ A).length = t by simp; omega]; exact hz
  have HAA : Hid _ := hAat
  have HBA : Hid _ := hBat
  have HIH : Hid _ := IH
  have ham : a + 2 ≤ m := by omega
  have hmb2 : m + 2 ≤ b := by omega
  have hbN : b ≤ N := by omega
  clear hR ha hm hb hN hSA hSB hbef hAat hBat hA2 hB2 IH
  obtain ⟨mid, hmid⟩ : ∃ mid, mid = (a + b) / 2 := ⟨_, rfl⟩
  have hmidI : ((a : Int) + (b : Int)) / 2 = (mid : Int) := by omega
  obtain ⟨p, hp⟩ : ∃ p, p = mid + m - 1 := ⟨_, rfl⟩
  have hpI : (mid : Int) + (m : Int) - 1 = (p : Int) := by omega
  obtain ⟨s0, hs⟩ : ∃ s0, s0 = (if m > mid then mid + m - b else a) := ⟨_, rfl⟩
  obtain ⟨r0, hr⟩ : ∃ r0, r0 = (if m > mid then mid else m) := ⟨_, rfl⟩
  have hsr : s0 ≤ r0 := by rw [hs, hr]; split <;> omega
  have HC0 : Hid (∀ c, s0 ≤ c → c < r0 → a ≤ c ∧ c < m ∧ m ≤ p - c ∧ p - c < b) := (by
    intro c h1 h2
    rw [hs] at h1; rw [hr] at h2
    split at h1 <;> split at h2 <;> omega : ∀ c, _)
  have HE0 : Hid (a ≤ s0 ∧ r0 ≤ m ∧ r0 ≤ mid ∧ mid + m ≤ s0 + b ∧ (s0 = a ∨ s0 + b = mid + m) ∧ (r0 = m ∨ r0 = mid)) := (by
    rw [hs, hr]; split <;> omega : _ ∧ _)
  have hmidb : mid < b := by omega
  have hamid : a + 2 ≤ mid := by omega
  have hpN : p < 2 * N := by omega
  have HM : Hid (mid = (a + b) / 2 ∧ p = mid + m - 1) := (⟨hmid, hp⟩ : _ ∧ _)
  show Calls Tryz.prog 128 _ _ _
  clear hmid hp
  by_cases hmm : m > mid
  case' pos =>
    rw [if_pos hmm] at hs hr
    have hs0I : (mid : Int) + (m : Int) - (b : Int) = (s0 : Int) := by omega
    have HEs : Hid (Value.int .i64 (s0 : Int) = .int .i64 (s0 : Int)) := (rfl : _ = _)
    have HEr : Hid (Value.int .i64 (mid : Int) = .int .i64 (r0 : Int)) := (by rw [hr] : _ = _)
  case' neg =>
    rw [if_neg hmm] at hs hr
    have HEs : Hid (Value.int .i64 (a : Int) = .int .i64 (s0 : Int)) := (by rw [hs] : _ = _)
    have HEr : Hid (Value.int .i64 (m : Int) = .int .i64 (r0 : Int)) := (by rw [hr] : _ = _)
  all_goals
    have hrN : r0 ≤ N := by omega
    clear hs hr
    go_enter Tryz.func128, Tryz.ntmps128
    go_wp2
    go_loopw [20, 21] (fun ss sr wr => ∃ s r : Nat, s0 ≤ s ∧ s ≤ r ∧ r ≤ r0 ∧ ss = .int .i64 (s : Int) ∧ sr = .int .i64 (r : Int) ∧ Hid (RowE wr g cap (X ++ A ++ B ++ Y) ∧ w.grownBy wr (some g) ∧ (∀ c x y, s0 ≤ c → c < s → A[c - a]? = some x → B[p - c - m]? = some y → x.2.1 ≤ y.2.1) ∧ (∀ c x y, r ≤ c → c < r0 → A[c - a]? = some x → B[p - c - m]? = some y → y.2.1 < x.2.1))) (fun ss sr _ => (intOf sr).toNat - (intOf ss).toNat)
    case atStart => exact ⟨s0, r0, Nat.le_refl _, hsr, Nat.le_refl _, (by first | rfl | exact HEs.out), (by first | rfl | exact HEr.out), H0.out, ⟨rfl, rfl, rfl, Nat.le_refl _, fun _ _ _ => rfl⟩, fun c x y _ h2 => by omega, fun c x y h1 h2 => by omega⟩
    case round =>
      obtain ⟨s, r, hs0, hsr2, hr0, rfl, rfl, HI⟩ := hrel
      by_cases hlt : s < r
      · obtain ⟨c, hc⟩ : ∃ c, c = (s + r) / 2 := ⟨_, rfl⟩
        have hh : ((s : Int) + (r : Int)) / 2 = (c : Int) := by omega
        have hcs : s ≤ c := by omega
        have hcr : c < r := by omega
        obtain ⟨hca, hcm, hpm, hpb⟩ := HC0.out c (by omega) (by omega)
        obtain ⟨d, hd⟩ : ∃ d, d = p - c := ⟨_, rfl⟩
        have hpc : (p : Int) - (c : Int) = (d : Int) := by omega
        have hdw : IntKind.i64.wrap (d : Int) = (d : Int) := by rw [IntKind.wrap_i64]; omega
        obtain ⟨z, hz⟩ : ∃ z, A[c - a]? = some z := ⟨_, List.getElem?_eq_getElem (by have := HL.out; omega)⟩
        obtain ⟨y, hy⟩ : ∃ y, B[d - m]? = some y := ⟨_, List.getElem?_eq_getElem (by have := HL.out; omega)⟩
        have hzq := HAA.out _ _ hz
        rw [show a + (c - a) = c by omega] at hzq
        have hyq := HBA.out _ _ hy
        rw [show m + (d - m) = d by omega] at hyq
        obtain ⟨c0, c1, c2⟩ := HI.out.1.cells hzq
        obtain ⟨d0, d1, d2⟩ := HI.out.1.cells hyq
        have HZ : Hid _ := And.intro hz hy
        have hcN : c < N := by omega
        have hdN : d < N := by omega
        have HD : Hid _ := And.intro hd (And.intro hpm hpb)
        clear hz hy hzq hyq hc hd hpm hpb
        have HX : Hid (RowE wr g cap (X ++ A ++ B ++ Y) ∧ w.grownBy wr (some g)) := (⟨HI.out.1, HI.out.2.1⟩ : _ ∧ _)
        have HP : Hid ((∀ c x y, s0 ≤ c → c < s → A[c - a]? = some x → B[p - c - m]? = some y → x.2.1 ≤ y.2.1) ∧ (∀ c x y, r ≤ c → c < r0 → A[c - a]? = some x → B[p - c - m]? = some y → y.2.1 < x.2.1)) := HI.out.2.2
        clear HI
        obtain ⟨y1, y2, y3⟩ := y
        obtain ⟨z1, z2, z3⟩ := z
        dsimp only at c0 c1 c2 d0 d1 d2
        have HC : ∀ W, Hid (Calls Tryz.prog 49 _ W _) := fun W => cmplab_any y1 y2 y3 z1 z2 z3 W
        have hci := cmpI_lt y2 z2
        by_cases hcc : y2 < z2
        · have hcl : decide (Lib.compareInt y2 z2 < 0) = true := decide_eq_true (hci.2 hcc)
          clear hci
          go_upto_region 35 with fail
          go_region_held (fun w' => w'.cell? ⟨g, d * 3, none⟩ = some (.int .i64 y1) ∧ w'.cell? ⟨g, d * 3 + 1, none⟩ = some (.int .i64 y2) ∧ w'.cell? ⟨g, d * 3 + 2, none⟩ = some (.int .i64 y3) ∧ w'.cell? ⟨g, c * 3, none⟩ = some (.int .i64 z1) ∧ w'.cell? ⟨g, c * 3 + 1, none⟩ = some (.int .i64 z2) ∧ w'.cell? ⟨g, c * 3 + 2, none⟩ = some (.int .i64 z3)) (refine ⟨?_, ?_, ?_, ?_, ?_, ?_⟩ <;> (repeat (first | assumption | apply cell_dr | apply cell_al)))
            (first
              | (go_at_call 49; refine (Calls.mono (HC _).out ?_); rintro e w' ⟨rfl, rfl⟩))
          have H2 : Hid _ := two_new HX.out (.cells #[.int .i64 y1, .int .i64 y2, .int .i64 y3] 41) (.cells #[.int .i64 z1, .int .i64 z2, .int .i64 z3] 41)
          clear c0 c1 c2 d0 d1 d2
          revert H2
          generalize (wr.alloc _).alloc _ = W2
          intro H2
          go_wp2
          go_roundw
          case rel => exact ⟨s, c, hs0, by omega, by omega, rfl, rfl, H2.out.1, gb_dn1 H2.out.2, HP.out.1, fun e u v h1 h2 hu hv => by
            have k1 := s2_lab HSA.out HZ.out.1 hu (by omega)
            have k2 := s2_lab HSB.out hv HZ.out.2 (by have := HD.out; omega)
            have k3 : z2 ≤ u.2.1 := k1
            have k4 : v.2.1 ≤ y2 := k2
            omega⟩
          case measure => simp [intOf]; omega
        · have hcl : decide (Lib.compareInt y2 z2 < 0) = false := decide_eq_false (fun h => hcc (hci.1 h))
          clear hci
          go_upto_region 35 with fail
          go_region_held (fun w' => w'.cell? ⟨g, d * 3, none⟩ = some (.int .i64 y1) ∧ w'.cell? ⟨g, d * 3 + 1, none⟩ = some (.int .i64 y2) ∧ w'.cell? ⟨g, d * 3 + 2, none⟩ = some (.int .i64 y3) ∧ w'.cell? ⟨g, c * 3, none⟩ = some (.int .i64 z1) ∧ w'.cell? ⟨g, c * 3 + 1, none⟩ = some (.int .i64 z2) ∧ w'.cell? ⟨g, c * 3 + 2, none⟩ = some (.int .i64 z3)) (refine ⟨?_, ?_, ?_, ?_, ?_, ?_⟩ <;> (repeat (first | assumption | apply cell_dr | apply cell_al)))
            (first
              | (go_at_call 49; refine (Calls.mono (HC _).out ?_); rintro e w' ⟨rfl, rfl⟩))
          have H2 : Hid _ := two_new HX.out (.cells #[.int .i64 y1, .int .i64 y2, .int .i64 y3] 41) (.cells #[.int .i64 z1, .int .i64 z2, .int .i64 z3] 41)
          clear c0 c1 c2 d0 d1 d2
          revert H2
          generalize (wr.alloc _).alloc _ = W2
          intro H2
          go_wp2
          go_roundw
          case rel => exact ⟨c + 1, r, by omega, by omega, hr0, by go_num, rfl, H2.out.1, gb_dn1 H2.out.2, fun e u v h1 h2 hu hv => by
            have k1 := s2_lab HSA.out hu HZ.out.1 (by omega)
            have k2 := s2_lab HSB.out HZ.out.2 hv (by have := HD.out; omega)
            have k3 : u.2.1 ≤ z2 := k1
            have k4 : y2 ≤ v.2.1 := k2
            omega, HP.out.2⟩
          case measure => simp [intOf]; omega
      · obtain rfl : s = r := by omega
        have hp2 := HM.out.2
        have hEo := HE0.out
        obtain ⟨e, he⟩ : ∃ e, e = mid + m - s := ⟨_, rfl⟩
        have heI : (mid : Int) + (m : Int) - (s : Int) = (e : Int) := by omega
        have HH0 : Hid _ := sym_pure (s := s) (mid := mid) (s0 := s0) (r0 := r0) HL.out.2.1 HL.out.2.2.1 HSA.out HSB.out HB.out HE0.out hs0 hr0 (by rw [← hp2]; exact HI.out.2.2.1) (by rw [← hp2]; exact HI.out.2.2.2)
        have eA := List.take_append_drop (s - a) A
        have eB := List.take_append_drop (mid - s) B
        have lA1 : a + (A.take (s - a)).length = s := by rw [List.length_take]; have := HL.out; omega
        have lA2 : s + (A.drop (s - a)).length = m := by rw [List.length_drop]; have := HL.out; omega
        have lB1 : s + (B.take (mid - s)).length = mid := by rw [List.length_take]; have := HL.out; omega
        have lB2 : e + (B.drop (mid - s)).length = b := by rw [List.length_drop]; have := HL.out; omega
        obtain ⟨A1, hA1⟩ : ∃ A1, A1 = A.take (s - a) := ⟨_, rfl⟩
        obtain ⟨A2, hA2⟩ : ∃ A2, A2 = A.drop (s - a) := ⟨_, rfl⟩
        obtain ⟨B1, hB1⟩ : ∃ B1, B1 = B.take (mid - s) := ⟨_, rfl⟩
        obtain ⟨B2, hB2⟩ : ∃ B2, B2 = B.drop (mid - s) := ⟨_, rfl⟩
        rw [← hA1, ← hA2] at eA
        rw [← hB1, ← hB2] at eB
        rw [← hA1] at lA1
        rw [← hA2] at lA2
        rw [← hB1] at lB1
        rw [← hB2] at lB2
        have HH : Hid (∀ M1 M2 : List E3, M1.Perm (A1 ++ B1) → M2.Perm (A2 ++ B2) → Gm.S2 M1 → Gm.S2 M2 → Gm.S2 (M1 ++ M2) ∧ (M1 ++ M2).Perm (A ++ B)) := (by rw [hA1, hA2, hB1, hB2]; exact HH0.out : ∀ M1 M2 : List E3, _)
        have HSs : Hid (Gm.S2 A1 ∧ Gm.S2 A2 ∧ Gm.S2 B1 ∧ Gm.S2 B2 ∧ (∀ x ∈ A1, ∀ y ∈ B1, Gm.ltE x y = true) ∧ (∀ x ∈ A2, ∀ y ∈ B2, Gm.ltE x y = true)) := (by
          rw [hA1, hA2, hB1, hB2]
          exact ⟨HSA.out.sublist (List.take_sublist _ _), HSA.out.sublist (List.drop_sublist _ _), HSB.out.sublist (List.take_sublist _ _), HSB.out.sublist (List.drop_sublist _ _), fun x hx y hy => HB.out x (List.mem_of_mem_take hx) y (List.mem_of_mem_take hy), fun x hx y hy => HB.out x (List.mem_of_mem_drop hx) y (List.mem_of_mem_drop hy)⟩ : _ ∧ _)
        have HLs : Hid (a + A1.length = s ∧ s + A2.length = m ∧ s + B1.length = mid ∧ e + B2.length = b ∧ A.length = A1.length + A2.length ∧ B.length = B1.length + B2.length ∧ e = mid + m - s) := (⟨lA1, lA2, lB1, lB2, by rw [← eA, List.length_append], by rw [← eB, List.length_append], he⟩ : _ ∧ _)
        have HR0 : Hid (RowE wr g cap (X ++ A1 ++ A2 ++ B1 ++ (B2 ++ Y))) := (by
          have h := HI.out.1
          rw [← eA, ← eB] at h
          simpa using h : RowE _ _ _ _)
        have HG0 : Hid (w.grownBy wr (some g)) := HI.out.2.1
        have hsm : s ≤ m := by omega
        have hsmid : s ≤ mid := by omega
        have has : a ≤ s := by omega
        have heb : e ≤ b := by omega
        have hme : m ≤ e := by omega
        have hmide : mid ≤ e := by omega
        have hnse : e + s = mid + m := by omega
        clear HI HH0 eA eB lA1 lA2 lB1 lB2 hA1 hA2 hB1 hB2 hp2 hEo he HSA HSB
        by_cases qA1 : a < s
        · by_cases qA2 : s < m
          · by_cases qB1 : s < mid
            · by_cases qB2 : e < b
              · have f1 : (s : Int) < (m : Int) := by omega
                have f2 : (m : Int) < (e : Int) := by omega
                have f3 : (a : Int) < (s : Int) := by omega
                have f4 : (s : Int) < (mid : Int) := by omega
                have f5 : (mid : Int) < (e : Int) := by omega
                have f6 : (e : Int) < (b : Int) := by omega
                have HC : Hid (Calls Tryz.prog 147 _ wr _) := rot_any (X ++ A1) A2 B1 (B2 ++ Y) s m e N g cap (.func (.func 49) #[] #[]) wr HR0.out (by rw [List.length_append]; have := HL.out; have := HLs.out; omega) (by have := HLs.out; omega) (by have := HLs.out; omega) (by rw [List.length_append]; have := HL.out; have := HLs.out; omega) (fun e => by have := HLs.out; rw [e] at this; simp at this; omega) (fun e => by have := HLs.out; rw [e] at this; simp at this; omega) hl
                go_wp2_with fail
                refine (Calls.mono HC.out ?_)
                rintro e9 w1 ⟨rfl, hr9, hg9⟩
                have HR1 : Hid (RowE w1 g cap (X ++ A1 ++ B1 ++ (A2 ++ (B2 ++ Y)))) := (by simpa using hr9 : RowE _ _ _ _)
                have HG1 : Hid (w.grownBy w1 (some g)) := HG0.out.trans hg9
                clear hr9 hg9 HC
                have HC : Hid (Calls Tryz.prog 128 _ w1 _) := HIH.out X A1 B1 (A2 ++ (B2 ++ Y)) a s mid w1 (by have := HL.out; have := HLs.out; omega) ⟨by simpa using HR1.out, HL.out.1, by have := HLs.out; omega, by have := HLs.out; omega, by simp only [List.length_append]; have := HL.out; have := HLs.out; omega, HSs.out.1, HSs.out.2.2.1, HSs.out.2.2.2.2.1, (fun e => by have := HLs.out; rw [e] at this; simp at this; omega), (fun e => by have := HLs.out; rw [e] at this; simp at this; omega)⟩
                go_wp2_with fail
                refine (Calls.mono HC.out ?_)
                rintro e9 w2 ⟨rfl, ⟨M1, hr9, hp1, hs1⟩, hg9⟩
                have HR2 : Hid (RowE w2 g cap (X ++ M1 ++ (A2 ++ (B2 ++ Y)))) := (by simpa using hr9 : RowE _ _ _ _)
                have HG2 : Hid (w.grownBy w2 (some g)) := HG1.out.trans hg9
                have HM1 : Hid (M1.Perm (A1 ++ B1) ∧ Gm.S2 M1) := And.intro hp1 hs1
                clear hr9 hg9 HC hp1 hs1
                have HC : Hid (Calls Tryz.prog 128 _ w2 _) := HIH.out (X ++ M1) A2 B2 Y mid e b w2 (by have := HL.out; have := HLs.out; omega) ⟨by simpa using HR2.out, by rw [List.length_append, HM1.out.1.length_eq, List.length_append]; have := HL.out; have := HLs.out; omega, by have := HLs.out; omega, by have := HLs.out; omega, by have := HL.out; omega, HSs.out.2.1, HSs.out.2.2.2.1, HSs.out.2.2.2.2.2, (fun e => by have := HLs.out; rw [e] at this; simp at this; omega), (fun e => by have := HLs.out; rw [e] at this; simp at this; omega)⟩
                go_wp2_with fail
                refine (Calls.mono HC.out ?_)
                rintro e9 w3 ⟨rfl, ⟨M2, hr9, hp1, hs1⟩, hg9⟩
                have HE9 : Hid ((∃ M, RowE w3 g cap (X ++ M ++ Y) ∧ M.Perm (A ++ B) ∧ Gm.S2 M) ∧ w.grownBy w3 (some g)) := (by
                  have hh := HH.out M1 M2 HM1.out.1 hp1 HM1.out.2 hs1
                  exact ⟨⟨M1 ++ M2, by simpa using hr9, hh.2, hh.1⟩, HG2.out.trans hg9⟩ : _ ∧ _)
                clear hr9 hg9 HC hp1 hs1
                go_wp2
                all_goals go_end0
                all_goals (first | exact ⟨rfl, HE9.out⟩ | exact ⟨rfl, by simpa using HE9.out⟩)
              · have f1 : (s : Int) < (m : Int) := by omega
                have f2 : (m : Int) < (e : Int) := by omega
                have f3 : (a : Int) < (s : Int) := by omega
                have f4 : (s : Int) < (mid : Int) := by omega
                have f5 : (mid : Int) < (e : Int) := by omega
                have f6 : ¬ (e : Int) < (b : Int) := by omega
                have HC : Hid (Calls Tryz.prog 147 _ wr _) := rot_any (X ++ A1) A2 B1 (B2 ++ Y) s m e N g cap (.func (.func 49) #[] #[]) wr HR0.out (by rw [List.length_append]; have := HL.out; have := HLs.out; omega) (by have := HLs.out; omega) (by have := HLs.out; omega) (by rw [List.length_append]; have := HL.out; have := HLs.out; omega) (fun e => by have := HLs.out; rw [e] at this; simp at this; omega) (fun e => by have := HLs.out; rw [e] at this; simp at this; omega) hl
                go_wp2_with fail
                refine (Calls.mono HC.out ?_)
                rintro e9 w1 ⟨rfl, hr9, hg9⟩
                have HR1 : Hid (RowE w1 g cap (X ++ A1 ++ B1 ++ (A2 ++ (B2 ++ Y)))) := (by simpa using hr9 : RowE _ _ _ _)
                have HG1 : Hid (w.grownBy w1 (some g)) := HG0.out.trans hg9
                clear hr9 hg9 HC
                have HC : Hid (Calls Tryz.prog 128 _ w1 _) := HIH.out X A1 B1 (A2 ++ (B2 ++ Y)) a s mid w1 (by have := HL.out; have := HLs.out; omega) ⟨by simpa using HR1.out, HL.out.1, by have := HLs.out; omega, by have := HLs.out; omega, by simp only [List.length_append]; have := HL.out; have := HLs.out; omega, HSs.out.1, HSs.out.2.2.1, HSs.out.2.2.2.2.1, (fun e => by have := HLs.out; rw [e] at this; simp at this; omega), (fun e => by have := HLs.out; rw [e] at this; simp at this; omega)⟩
                go_wp2_with fail
                refine (Calls.mono HC.out ?_)
                rintro e9 w2 ⟨rfl, ⟨M1, hr9, hp1, hs1⟩, hg9⟩
                have HR2 : Hid (RowE w2 g cap (X ++ M1 ++ (A2 ++ (B2 ++ Y)))) := (by simpa using hr9 : RowE _ _ _ _)
                have HG2 : Hid (w.grownBy w2 (some g)) := HG1.out.trans hg9
                have HM1 : Hid (M1.Perm (A1 ++ B1) ∧ Gm.S2 M1) := And.intro hp1 hs1
                clear hr9 hg9 HC hp1 hs1
                have HE9 : Hid ((∃ M, RowE w2 g cap (X ++ M ++ Y) ∧ M.Perm (A ++ B) ∧ Gm.S2 M) ∧ w.grownBy w2 (some g)) := (by
                  obtain e8 : B2 = [] := List.eq_nil_of_length_eq_zero (by have := HLs.out; omega)
                  have hh := HH.out M1 (A2 ++ B2) HM1.out.1 (List.Perm.refl _) HM1.out.2 (by rw [e8, List.append_nil]; exact HSs.out.2.1)
                  exact ⟨⟨M1 ++ (A2 ++ B2), by simpa using HR2.out, hh.2, hh.1⟩, HG2.out⟩ : _ ∧ _)
                go_wp2
                all_goals go_end0
                all_goals (first | exact ⟨rfl, HE9.out⟩ | exact ⟨rfl, by simpa using HE9.out⟩)
            · by_cases qB2 : e < b
              · have f1 : (s : Int) < (m : Int) := by omega
                have f2 : ¬ (m : Int) < (e : Int) := by omega
                have f3 : (a : Int) < (s : Int) := by omega
                have f4 : ¬ (s : Int) < (mid : Int) := by omega
                have f5 : (mid : Int) < (e : Int) := by omega
                have f6 : (e : Int) < (b : Int) := by omega
                have HR1 : Hid (RowE wr g cap (X ++ A1 ++ B1 ++ (A2 ++ (B2 ++ Y)))) := (by
                  obtain e8 : B1 = [] := List.eq_nil_of_length_eq_zero (by have := HLs.out; omega)
                  have h := HR0.out
                  rw [e8] at h ⊢
                  simpa using h : RowE _ _ _ _)
                have HG1 : Hid (w.grownBy wr (some g)) := HG0.out
                obtain ⟨M1, hM1⟩ : ∃ M1, M1 = A1 ++ B1 := ⟨_, rfl⟩
                have HR2 : Hid (RowE wr g cap (X ++ M1 ++ (A2 ++ (B2 ++ Y)))) := (by rw [hM1]; simpa using HR1.out : RowE _ _ _ _)
                have HG2 : Hid (w.grownBy wr (some g)) := HG1.out
                have HM1 : Hid (M1.Perm (A1 ++ B1) ∧ Gm.S2 M1) := (by
                  rw [hM1]
                  obtain e8 : B1 = [] := List.eq_nil_of_length_eq_zero (by have := HLs.out; omega)
                  exact ⟨List.Perm.refl _, by rw [e8, List.append_nil]; exact HSs.out.1⟩ : _ ∧ _)
                clear hM1
                have HC : Hid (Calls Tryz.prog 128 _ wr _) := HIH.out (X ++ M1) A2 B2 Y mid e b wr (by have := HL.out; have := HLs.out; omega) ⟨by simpa using HR2.out, by rw [List.length_append, HM1.out.1.length_eq, List.length_append]; have := HL.out; have := HLs.out; omega, by have := HLs.out; omega, by have := HLs.out; omega, by have := HL.out; omega, HSs.out.2.1, HSs.out.2.2.2.1, HSs.out.2.2.2.2.2, (fun e => by have := HLs.out; rw [e] at this; simp at this; omega), (fun e => by have := HLs.out; rw [e] at this; simp at this; omega)⟩
                go_wp2_with fail
                refine (Calls.mono HC.out ?_)
                rintro e9 w3 ⟨rfl, ⟨M2, hr9, hp1, hs1⟩, hg9⟩
                have HE9 : Hid ((∃ M, RowE w3 g cap (X ++ M ++ Y) ∧ M.Perm (A ++ B) ∧ Gm.S2 M) ∧ w.grownBy w3 (some g)) := (by
                  have hh := HH.out M1 M2 HM1.out.1 hp1 HM1.out.2 hs1
                  exact ⟨⟨M1 ++ M2, by simpa using hr9, hh.2, hh.1⟩, HG2.out.trans hg9⟩ : _ ∧ _)
                clear hr9 hg9 HC hp1 hs1
                go_wp2
                all_goals go_end0
                all_goals (first | exact ⟨rfl, HE9.out⟩ | exact ⟨rfl, by simpa using HE9.out⟩)
              · exfalso; have := HL.out; have := HLs.out; have := HM.out; omega
          · by_cases qB1 : s < mid
            · by_cases qB2 : e < b
              · have f1 : ¬ (s : Int) < (m : Int) := by omega
                have f2 : (m : Int) < (e : Int) := by omega
                have f3 : (a : Int) < (s : Int) := by omega
                have f4 : (s : Int) < (mid : Int) := by omega
                have f5 : ¬ (mid : Int) < (e : Int) := by omega
                have f6 : (e : Int) < (b : Int) := by omega
                have HR1 : Hid (RowE wr g cap (X ++ A1 ++ B1 ++ (A2 ++ (B2 ++ Y)))) := (by
                  obtain e8 : A2 = [] := List.eq_nil_of_length_eq_zero (by have := HLs.out; omega)
                  have h := HR0.out
                  rw [e8] at h ⊢
                  simpa using h : RowE _ _ _ _)
                have HG1 : Hid (w.grownBy wr (some g)) := HG0.out
                have HC : Hid (Calls Tryz.prog 128 _ wr _) := HIH.out X A1 B1 (A2 ++ (B2 ++ Y)) a s mid wr (by have := HL.out; have := HLs.out; omega) ⟨by simpa using HR1.out, HL.out.1, by have := HLs.out; omega, by have := HLs.out; omega, by simp only [List.length_append]; have := HL.out; have := HLs.out; omega, HSs.out.1, HSs.out.2.2.1, HSs.out.2.2.2.2.1, (fun e => by have := HLs.out; rw [e] at this; simp at this; omega), (fun e => by have := HLs.out; rw [e] at this; simp at this; omega)⟩
                go_wp2_with fail
                refine (Calls.mono HC.out ?_)
                rintro e9 w2 ⟨rfl, ⟨M1, hr9, hp1, hs1⟩, hg9⟩
                have HR2 : Hid (RowE w2 g cap (X ++ M1 ++ (A2 ++ (B2 ++ Y)))) := (by simpa using hr9 : RowE _ _ _ _)
                have HG2 : Hid (w.grownBy w2 (some g)) := HG1.out.trans hg9
                have HM1 : Hid (M1.Perm (A1 ++ B1) ∧ Gm.S2 M1) := And.intro hp1 hs1
                clear hr9 hg9 HC hp1 hs1
                have HE9 : Hid ((∃ M, RowE w2 g cap (X ++ M ++ Y) ∧ M.Perm (A ++ B) ∧ Gm.S2 M) ∧ w.grownBy w2 (some g)) := (by
                  obtain e8 : A2 = [] := List.eq_nil_of_length_eq_zero (by have := HLs.out; omega)
                  have hh := HH.out M1 (A2 ++ B2) HM1.out.1 (List.Perm.refl _) HM1.out.2 (by rw [e8]; exact HSs.out.2.2.2.1)
                  exact ⟨⟨M1 ++ (A2 ++ B2), by simpa using HR2.out, hh.2, hh.1⟩, HG2.out⟩ : _ ∧ _)
                go_wp2
                all_goals go_end0
                all_goals (first | exact ⟨rfl, HE9.out⟩ | exact ⟨rfl, by simpa using HE9.out⟩)
              · exfalso; have := HL.out; have := HLs.out; have := HM.out; omega
            · by_cases qB2 : e < b
              · have f1 : ¬ (s : Int) < (m : Int) := by omega
                have f2 : ¬ (m : Int) < (e : Int) := by omega
                have f3 : (a : Int) < (s : Int) := by omega
                have f4 : ¬ (s : Int) < (mid : Int) := by omega
                have f5 : ¬ (mid : Int) < (e : Int) := by omega
                have f6 : (e : Int) < (b : Int) := by omega
                have HR1 : Hid (RowE wr g cap (X ++ A1 ++ B1 ++ (A2 ++ (B2 ++ Y)))) := (by
                  obtain e8 : A2 = [] := List.eq_nil_of_length_eq_zero (by have := HLs.out; omega)
                  have h := HR0.out
                  rw [e8] at h ⊢
                  simpa using h : RowE _ _ _ _)
                have HG1 : Hid (w.grownBy wr (some g)) := HG0.out
                obtain ⟨M1, hM1⟩ : ∃ M1, M1 = A1 ++ B1 := ⟨_, rfl⟩
                have HR2 : Hid (RowE wr g cap (X ++ M1 ++ (A2 ++ (B2 ++ Y)))) := (by rw [hM1]; simpa using HR1.out : RowE _ _ _ _)
                have HG2 : Hid (w.grownBy wr (some g)) := HG1.out
                have HM1 : Hid (M1.Perm (A1 ++ B1) ∧ Gm.S2 M1) := (by
                  rw [hM1]
                  obtain e8 : B1 = [] := List.eq_nil_of_length_eq_zero (by have := HLs.out; omega)
                  exact ⟨List.Perm.refl _, by rw [e8, List.append_nil]; exact HSs.out.1⟩ : _ ∧ _)
                clear hM1
                have HE9 : Hid ((∃ M, RowE wr g cap (X ++ M ++ Y) ∧ M.Perm (A ++ B) ∧ Gm.S2 M) ∧ w.grownBy wr (some g)) := (by
                  obtain e8 : A2 = [] := List.eq_nil_of_length_eq_zero (by have := HLs.out; omega)
                  have hh := HH.out M1 (A2 ++ B2) HM1.out.1 (List.Perm.refl _) HM1.out.2 (by rw [e8]; exact HSs.out.2.2.2.1)
                  exact ⟨⟨M1 ++ (A2 ++ B2), by simpa using HR2.out, hh.2, hh.1⟩, HG2.out⟩ : _ ∧ _)
                go_wp2
                all_goals go_end0
                all_goals (first | exact ⟨rfl, HE9.out⟩ | exact ⟨rfl, by simpa using HE9.out⟩)
              · exfalso; have := HL.out; have := HLs.out; have := HM.out; omega
        · by_cases qA2 : s < m
          · by_cases qB1 : s < mid
            · by_cases qB2 : e < b
              · have f1 : (s : Int) < (m : Int) := by omega
                have f2 : (m : Int) < (e : Int) := by omega
                have f3 : ¬ (a : Int) < (s : Int) := by omega
                have f4 : (s : Int) < (mid : Int) := by omega
                have f5 : (mid : Int) < (e : Int) := by omega
                have f6 : (e : Int) < (b : Int) := by omega
                have HC : Hid (Calls Tryz.prog 147 _ wr _) := rot_any (X ++ A1) A2 B1 (B2 ++ Y) s m e N g cap (.func (.func 49) #[] #[]) wr HR0.out (by rw [List.length_append]; have := HL.out; have := HLs.out; omega) (by have := HLs.out; omega) (by have := HLs.out; omega) (by rw [List.length_append]; have := HL.out; have := HLs.out; omega) (fun e => by have := HLs.out; rw [e] at this; simp at this; omega) (fun e => by have := HLs.out; rw [e] at this; simp at this; omega) hl
                go_wp2_with fail
                refine (Calls.mono HC.out ?_)
                rintro e9 w1 ⟨rfl, hr9, hg9⟩
                have HR1 : Hid (RowE w1 g cap (X ++ A1 ++ B1 ++ (A2 ++ (B2 ++ Y)))) := (by simpa using hr9 : RowE _ _ _ _)
                have HG1 : Hid (w.grownBy w1 (some g)) := HG0.out.trans hg9
                clear hr9 hg9 HC
                obtain ⟨M1, hM1⟩ : ∃ M1, M1 = A1 ++ B1 := ⟨_, rfl⟩
                have HR2 : Hid (RowE w1 g cap (X ++ M1 ++ (A2 ++ (B2 ++ Y)))) := (by rw [hM1]; simpa using HR1.out : RowE _ _ _ _)
                have HG2 : Hid (w.grownBy w1 (some g)) := HG1.out
                have HM1 : Hid (M1.Perm (A1 ++ B1) ∧ Gm.S2 M1) := (by
                  rw [hM1]
                  obtain e8 : A1 = [] := List.eq_nil_of_length_eq_zero (by have := HLs.out; omega)
                  exact ⟨List.Perm.refl _, by rw [e8]; exact HSs.out.2.2.1⟩ : _ ∧ _)
                clear hM1
                have HC : Hid (Calls Tryz.prog 128 _ w1 _) := HIH.out (X ++ M1) A2 B2 Y mid e b w1 (by have := HL.out; have := HLs.out; omega) ⟨by simpa using HR2.out, by rw [List.length_append, HM1.out.1.length_eq, List.length_append]; have := HL.out; have := HLs.out; omega, by have := HLs.out; omega, by have := HLs.out; omega, by have := HL.out; omega, HSs.out.2.1, HSs.out.2.2.2.1, HSs.out.2.2.2.2.2, (fun e => by have := HLs.out; rw [e] at this; simp at this; omega), (fun e => by have := HLs.out; rw [e] at this; simp at this; omega)⟩
                go_wp2_with fail
                refine (Calls.mono HC.out ?_)
                rintro e9 w3 ⟨rfl, ⟨M2, hr9, hp1, hs1⟩, hg9⟩
                have HE9 : Hid ((∃ M, RowE w3 g cap (X ++ M ++ Y) ∧ M.Perm (A ++ B) ∧ Gm.S2 M) ∧ w.grownBy w3 (some g)) := (by
                  have hh := HH.out M1 M2 HM1.out.1 hp1 HM1.out.2 hs1
                  exact ⟨⟨M1 ++ M2, by simpa using hr9, hh.2, hh.1⟩, HG2.out.trans hg9⟩ : _ ∧ _)
                clear hr9 hg9 HC hp1 hs1
                go_wp2
                all_goals go_end0
                all_goals (first | exact ⟨rfl, HE9.out⟩ | exact ⟨rfl, by simpa using HE9.out⟩)
              · have f1 : (s : Int) < (m : Int) := by omega
                have f2 : (m : Int) < (e : Int) := by omega
                have f3 : ¬ (a : Int) < (s : Int) := by omega
                have f4 : (s : Int) < (mid : Int) := by omega
                have f5 : (mid : Int) < (e : Int) := by omega
                have f6 : ¬ (e : Int) < (b : Int) := by omega
                have HC : Hid (Calls Tryz.prog 147 _ wr _) := rot_any (X ++ A1) A2 B1 (B2 ++ Y) s m e N g cap (.func (.func 49) #[] #[]) wr HR0.out (by rw [List.length_append]; have := HL.out; have := HLs.out; omega) (by have := HLs.out; omega) (by have := HLs.out; omega) (by rw [List.length_append]; have := HL.out; have := HLs.out; omega) (fun e => by have := HLs.out; rw [e] at this; simp at this; omega) (fun e => by have := HLs.out; rw [e] at this; simp at this; omega) hl
                go_wp2_with fail
                refine (Calls.mono HC.out ?_)
                rintro e9 w1 ⟨rfl, hr9, hg9⟩
                have HR1 : Hid (RowE w1 g cap (X ++ A1 ++ B1 ++ (A2 ++ (B2 ++ Y)))) := (by simpa using hr9 : RowE _ _ _ _)
                have HG1 : Hid (w.grownBy w1 (some g)) := HG0.out.trans hg9
                clear hr9 hg9 HC
                obtain ⟨M1, hM1⟩ : ∃ M1, M1 = A1 ++ B1 := ⟨_, rfl⟩
                have HR2 : Hid (RowE w1 g cap (X ++ M1 ++ (A2 ++ (B2 ++ Y)))) := (by rw [hM1]; simpa using HR1.out : RowE _ _ _ _)
                have HG2 : Hid (w.grownBy w1 (some g)) := HG1.out
                have HM1 : Hid (M1.Perm (A1 ++ B1) ∧ Gm.S2 M1) := (by
                  rw [hM1]
                  obtain e8 : A1 = [] := List.eq_nil_of_length_eq_zero (by have := HLs.out; omega)
                  exact ⟨List.Perm.refl _, by rw [e8]; exact HSs.out.2.2.1⟩ : _ ∧ _)
                clear hM1
                have HE9 : Hid ((∃ M, RowE w1 g cap (X ++ M ++ Y) ∧ M.Perm (A ++ B) ∧ Gm.S2 M) ∧ w.grownBy w1 (some g)) := (by
                  obtain e8 : B2 = [] := List.eq_nil_of_length_eq_zero (by have := HLs.out; omega)
                  have hh := HH.out M1 (A2 ++ B2) HM1.out.1 (List.Perm.refl _) HM1.out.2 (by rw [e8, List.append_nil]; exact HSs.out.2.1)
                  exact ⟨⟨M1 ++ (A2 ++ B2), by simpa using HR2.out, hh.2, hh.1⟩, HG2.out⟩ : _ ∧ _)
                go_wp2
                all_goals go_end0
                all_goals (first | exact ⟨rfl, HE9.out⟩ | exact ⟨rfl, by simpa using HE9.out⟩)
            · by_cases qB2 : e < b
              · exfalso; have := HL.out; have := HLs.out; have := HM.out; omega
              · exfalso; have := HL.out; have := HLs.out; have := HM.out; omega
          · by_cases qB1 : s < mid
            · by_cases qB2 : e < b
              · exfalso; have := HL.out; have := HLs.out; have := HM.out; omega
              · exfalso; have := HL.out; have := HLs.out; have := HM.out; omega
            · by_cases qB2 : e < b
              · exfalso; have := HL.out; have := HLs.out; have := HM.out; omega
              · exfalso; have := HL.out; have := HLs.out; have := HM.out; omega
end Go.Proofs.YtphjbbbnbmafnabGreatDoor.G
