/-
  slices' symMerge over a block of edges, by compareLabels, where both sides have two and more: the sides are parted and turned, and each half is merged; nothing else is written.
  slices' symMerge, stable and SortStableFunc over edges, by compareLabels: a row of one's own that was in order is then ordered by labels, what is the same staying as it was; nothing else is written.
  slices.SortStableFunc over a row of edges of one's own, by compareLabels: ordered by labels, what is the same staying as it was; nothing else is written.
-/
import Derived.Test.YtphjbbbnbmafnaaGreatSym2
import Derived.Test.YtphjbbbnbmafnaaGreatGMath
namespace Go.Proofs.YtphjbbbnbmafnaaGreat.G
open Go.RowKit

/-- what symMerge is called with -/
def SymP (X A B Y : List E3) (a m b N g cap : Nat) (w : World) : Prop := RowE w g cap (X ++ A ++ B ++ Y) ∧ X.length = a ∧ a + A.length = m ∧ m + B.length = b ∧ b + Y.length = N ∧ Gm.S2 A ∧ Gm.S2 B ∧ (∀ x ∈ A, ∀ y ∈ B, Gm.ltE x y = true) ∧ A ≠ [] ∧ B ≠ []
/-- and what it does -/
def SymC (X A B Y : List E3) (a m b N g cap : Nat) (w : World) : Prop := Calls Tryz.prog 159 #[.slice (some ⟨g, 0, none⟩) N cap, .int .i64 (a : Int), .int .i64 (m : Int), .int .i64 (b : Int), .func (.func 71) #[] #[]] w fun e w' => e = .returned (.tuple #[]) ∧ (∃ M, RowE w' g cap (X ++ M ++ Y) ∧ M.Perm (A ++ B) ∧ Gm.S2 M) ∧ w.grownBy w' (some g)
theorem sym_pure {A B : List E3} {a m b s mid s0 r0 : Nat} (hA : a + A.length = m) (hB : m + B.length = b) (hSA : Gm.S2 A) (hSB : Gm.S2 B) (hbef : ∀ x ∈ A, ∀ y ∈ B, Gm.ltE x y = true)
    (hE : a ≤ s0 ∧ r0 ≤ m ∧ r0 ≤ mid ∧ mid + m ≤ s0 + b ∧ (s0 = a ∨ s0 + b = mid + m) ∧ (r0 = m ∨ r0 = mid)) (hs0 : s0 ≤ s) (hr0 : s ≤ r0)
    (P1 : ∀ c x y, s0 ≤ c → c < s → A[c - a]? = some x → B[mid + m - 1 - c - m]? = some y → x.2.1 ≤ y.2.1) (P2 : ∀ c x y, s ≤ c → c < r0 → A[c - a]? = some x → B[mid + m - 1 - c - m]? = some y → y.2.1 < x.2.1)
    (M1 M2 : List E3) (p1 : M1.Perm (A.take (s - a) ++ B.take (mid - s))) (p2 : M2.Perm (A.drop (s - a) ++ B.drop (mid - s))) (s1 : Gm.S2 M1) (s2 : Gm.S2 M2) : Gm.S2 (M1 ++ M2) ∧ (M1 ++ M2).Perm (A ++ B) := by
  have eA := List.take_append_drop (s - a) A
  have eB := List.take_append_drop (mid - s) B
  constructor
  · refine Gm.s2_halves (A.take (s - a)) (A.drop (s - a)) (B.take (mid - s)) (B.drop (mid - s)) M1 M2 (by rw [eA]; exact hSA) (by rw [eB]; exact hSB) (by rw [eA, eB]; exact hbef) (fun x hx y hy => ?_) (fun y hy x hx => ?_) p1 p2 s1 s2
    · obtain ⟨t, ht, hxt⟩ := mem_take_at hx
      obtain ⟨u, hu, hyu⟩ := mem_drop_at hy
      have hxl := len_of hxt
      have hyl := len_of hyu
      rcases Nat.lt_or_ge s0 s with hlt | hge
      · obtain ⟨x', hx'⟩ : ∃ x', A[s - 1 - a]? = some x' := ⟨_, List.getElem?_eq_getElem (by omega)⟩
        obtain ⟨y', hy'⟩ : ∃ y', B[mid - s]? = some y' := ⟨_, List.getElem?_eq_getElem (by omega)⟩
        have k1 := P1 (s - 1) x' y' (by omega) (by omega) hx' (by rw [show mid + m - 1 - (s - 1) - m = mid - s by omega]; exact hy')
        have k2 := s2_lab hSA hxt hx' (by omega)
        have k3 := s2_lab hSB hy' hyu (by omega)
        omega
      · omega
    · obtain ⟨t, ht, hyt⟩ := mem_take_at hy
      obtain ⟨u, hu, hxu⟩ := mem_drop_at hx
      have hyl := len_of hyt
      have hxl := len_of hxu
      rcases Nat.lt_or_ge s r0 with hlt | hge
      · obtain ⟨x', hx'⟩ : ∃ x', A[s - a]? = some x' := ⟨_, List.getElem?_eq_getElem (by omega)⟩
        obtain ⟨y', hy'⟩ : ∃ y', B[mid - 1 - s]? = some y' := ⟨_, List.getElem?_eq_getElem (by omega)⟩
        have k1 := P2 s x' y' (by omega) (by omega) hx' (by rw [show mid + m - 1 - s - m = mid - 1 - s by omega]; exact hy')
        have k2 := s2_lab hSA hx' hxu (by omega)
        have k3 := s2_lab hSB hyt hy' (by omega)
        omega
      · omega
  · have h := Gm.perm4 (A.take (s - a)) (A.drop (s - a)) (B.take (mid - s)) (B.drop (mid - s)) M1 M2 p1 p2
    rw [eA, eB] at h
    exact h
set_option maxHeartbeats 16000000 in
set_option maxRecDepth 100000 in
theorem symm_gen (X A B Y : List E3) (a m b N g cap : Nat) (w : World) (h : SymP X A B Y a m b N g cap w) (hA2 : 2 ≤ A.length) (hB2 : 2 ≤ B.length) (hl : N ≤ 1000000)
    (IH : ∀ (X' A' B' Y' : List E3) (a' m' b' : Nat) (w' : World), A'.length + B'.length < A.length + B.length → SymP X' A' B' Y' a' m' b' N g cap w' → SymC X' A' B' Y' a' m' b' N g cap w') : SymC X A B Y a m b N g cap w := by
  obtain ⟨hR, ha, hm, hb, hN, hSA, hSB, hbef, _, _⟩ := h
  have hma : ((m : Int) - (a : Int) == 1) = false := by simpa using (by omega : ¬ (m : Int) - (a : Int) = 1)
  have hmb : ((b : Int) - (m : Int) == 1) = false := by simpa using (by omega : ¬ (b : Int) - (m : Int) = 1)
  have H0 : Hid _ := hR
  have HSA : Hid _ := hSA
  have HSB : Hid _ := hSB
  have HB : Hid _ := hbef
  have HL : Hid _ := And.intro ha (And.intro hm (And.intro hb (And.intro hN (And.intro hA2 hB2))))
  have hAat : ∀ t z, A[t]? = some z → (X ++ A ++ B ++ Y)[a + t]? = some z := fun t z hz => by
    have ht := len_of hz
    rw [List.getElem?_append_left (by simp; omega), List.getElem?_append_left (by simp; omega), List.getElem?_append_right (by omega)]
    rw [show a + t - X.length = t by omega]; exact hz
  have hBat : ∀ t z, B[t]? = some z → (X ++ A ++ B ++ Y)[m + t]? = some z := fun t z hz => by
    have ht := len_of hz
    rw [List.getElem?_append_left (by simp; omega), List.getElem?_append_right (by simp; omega)]
    rw [show m + t - (X ++ A).length = t by simp; omega]; exact hz
  have HAA : Hid _ := hAat
  have HBA : Hid _ := hBat
  have HIH : Hid _ := IH
  have ham : a + 2 ≤ m := by omega
  have hmb2 : m + 2 ≤ b := by omega
  have hbN : b ≤ N := by omega
  clear hR ha hm hb hN hSA hSB hbef hAat hBat hA2 hB2 IH
  obtain ⟨mid, hmid⟩ : ∃ mid, mid = (a + b) / 2 := ⟨_, rfl⟩
  have hmidI : ((a : Int) + (b : Int)) / 2 = (mid : Int) := by omega
  obtain ⟨p, hp⟩ : ∃ p, p = mid + m - 1 := ⟨_, rfl⟩
  have hpI : (mid : Int) + (m : Int) - 1 = (p : Int) := by omega
  obtain ⟨s0, hs⟩ : ∃ s0, s0 = (if m > mid then mid + m - b else a) := ⟨_, rfl⟩
  obtain ⟨r0, hr⟩ : ∃ r0, r0 = (if m > mid then mid else m) := ⟨_, rfl⟩
  have hsr : s0 ≤ r0 := by rw [hs, hr]; split <;> omega
  have HC0 : Hid (∀ c, s0 ≤ c → c < r0 → a ≤ c ∧ c < m ∧ m ≤ p - c ∧ p - c < b) := (by
    intro c h1 h2
    rw [hs] at h1; rw [hr] at h2
    split at h1 <;> split at h2 <;> omega : ∀ c, _)
  have HE0 : Hid (a ≤ s0 ∧ r0 ≤ m ∧ r0 ≤ mid ∧ mid + m ≤ s0 + b ∧ (s0 = a ∨ s0 + b = mid + m) ∧ (r0 = m ∨ r0 = mid)) := (by
    rw [hs, hr]; split <;> omega : _ ∧ _)
  have hmidb : mid < b := by omega
  have hamid : a + 2 ≤ mid := by omega
  have hpN : p < 2 * N := by omega
  have HM : Hid (mid = (a + b) / 2 ∧ p = mid + m - 1) := (⟨hmid, hp⟩ : _ ∧ _)
  show Calls Tryz.prog 159 _ _ _
  clear hmid hp
  by_cases hmm : m > mid
  · rw [if_pos hmm] at hs hr
    have hs0I : (mid : Int) + (m : Int) - (b : Int) = (s0 : Int) := by omega
    have HEs : Hid (Value.int .i64 (s0 : Int) = .int .i64 (s0 : Int)) := (rfl : _ = _)
    have HEr : Hid (Value.int .i64 (mid : Int) = .int .i64 (r0 : Int)) := (by rw [hr] : _ = _)
    have hrN : r0 ≤ N := by omega
    clear hs hr
    go_enter Tryz.func159, Tryz.ntmps159
    go_wp2
    go_loopw [20, 21] (fun ss sr wr => ∃ s r : Nat, s0 ≤ s ∧ s ≤ r ∧ r ≤ r0 ∧ ss = .int .i64 (s : Int) ∧ sr = .int .i64 (r : Int) ∧ Hid (RowE wr g cap (X ++ A ++ B ++ Y) ∧ w.grownBy wr (some g) ∧ (∀ c x y, s0 ≤ c → c < s → A[c - a]? = some x → B[p - c - m]? = some y → x.2.1 ≤ y.2.1) ∧ (∀ c x y, r ≤ c → c < r0 → A[c - a]? = some x → B[p - c - m]? = some y → y.2.1 < x.2.1))) (fun ss sr _ => (intOf sr).toNat - (intOf ss).toNat)
    case atStart => exact ⟨s0, r0, Nat.le_refl _, hsr, Nat.le_refl _, (by first | rfl | exact HEs.out), (by first | rfl | exact HEr.out), H0.out, ⟨rfl, rfl, rfl, Nat.le_refl _, fun _ _ _ => rfl⟩, fun c x y _ h2 => by omega, fun c x y h1 h2 => by omega⟩
    case round =>
      obtain ⟨s, r, hs0, hsr2, hr0, rfl, rfl, HI⟩ := hrel
      by_cases hlt : s < r
      · obtain ⟨c, hc⟩ : ∃ c, c = (s + r) / 2 := ⟨_, rfl⟩
        have hh : ((s : Int) + (r : Int)) / 2 = (c : Int) := by omega
        have hcs : s ≤ c := by omega
        have hcr : c < r := by omega
        obtain ⟨hca, hcm, hpm, hpb⟩ := HC0.out c (by omega) (by omega)
        obtain ⟨d, hd⟩ : ∃ d, d = p - c := ⟨_, rfl⟩
        have hpc : (p : Int) - (c : Int) = (d : Int) := by omega
        have hdw : IntKind.i64.wrap (d : Int) = (d : Int) := by rw [IntKind.wrap_i64]; omega
        obtain ⟨z, hz⟩ : ∃ z, A[c - a]? = some z := ⟨_, List.getElem?_eq_getElem (by have := HL.out; omega)⟩
        obtain ⟨y, hy⟩ : ∃ y, B[d - m]? = some y := ⟨_, List.getElem?_eq_getElem (by have := HL.out; omega)⟩
        have hzq := HAA.out _ _ hz
        rw [show a + (c - a) = c by omega] at hzq
        have hyq := HBA.out _ _ hy
        rw [show m + (d - m) = d by omega] at hyq
        obtain ⟨c0, c1, c2⟩ := HI.out.1.cells hzq
        obtain ⟨d0, d1, d2⟩ := HI.out.1.cells hyq
        have HZ : Hid _ := And.intro hz hy
        have hcN : c < N := by omega
        have hdN : d < N := by omega
        have HD : Hid _ := And.intro hd (And.intro hpm hpb)
        clear hz hy hzq hyq hc hd hpm hpb
        have HX : Hid (RowE wr g cap (X ++ A ++ B ++ Y) ∧ w.grownBy wr (some g)) := (⟨HI.out.1, HI.out.2.1⟩ : _ ∧ _)
        have HP : Hid ((∀ c x y, s0 ≤ c → c < s → A[c - a]? = some x → B[p - c - m]? = some y → x.2.1 ≤ y.2.1) ∧ (∀ c x y, r ≤ c → c < r0 → A[c - a]? = some x → B[p - c - m]? = some y → y.2.1 < x.2.1)) := HI.out.2.2
        clear HI
        obtain ⟨y1, y2, y3⟩ := y
        obtain ⟨z1, z2, z3⟩ := z
        dsimp only at c0 c1 c2 d0 d1 d2
        have HC : ∀ W, Hid (Calls Tryz.prog 71 _ W _) := fun W => cmplab_any y1 y2 y3 z1 z2 z3 W
        have hci := cmpI_lt y2 z2
        by_cases hcc : y2 < z2
        · have hcl : decide (Lib.compareInt y2 z2 < 0) = true := decide_eq_true (hci.2 hcc)
          clear hci
          go_upto_region 35 with fail
          go_region_held (fun w' => w'.cell? ⟨g, d * 3, none⟩ = some (.int .i64 y1) ∧ w'.cell? ⟨g, d * 3 + 1, none⟩ = some (.int .i64 y2) ∧ w'.cell? ⟨g, d * 3 + 2, none⟩ = some (.int .i64 y3) ∧ w'.cell? ⟨g, c * 3, none⟩ = some (.int .i64 z1) ∧ w'.cell? ⟨g, c * 3 + 1, none⟩ = some (.int .i64 z2) ∧ w'.cell? ⟨g, c * 3 + 2, none⟩ = some (.int .i64 z3)) (refine ⟨?_, ?_, ?_, ?_, ?_, ?_⟩ <;> (repeat (first | assumption | apply cell_dr | apply cell_al)))
            (first
              | (go_at_call 71; refine (Calls.mono (HC _).out ?_); rintro e w' ⟨rfl, rfl⟩))
          have H2 : Hid _ := two_new HX.out (.cells #[.int .i64 y1, .int .i64 y2, .int .i64 y3] 26) (.cells #[.int .i64 z1, .int .i64 z2, .int .i64 z3] 26)
          clear c0 c1 c2 d0 d1 d2
          revert H2
          generalize (wr.alloc _).alloc _ = W2
          intro H2
          go_wp2
          go_roundw
          case rel => exact ⟨s, c, hs0, by omega, by omega, rfl, rfl, H2.out.1, gb_dn1 H2.out.2, HP.out.1, fun e u v h1 h2 hu hv => by
            have k1 := s2_lab HSA.out HZ.out.1 hu (by omega)
            have k2 := s2_lab HSB.out hv HZ.out.2 (by have := HD.out; omega)
            have k3 : z2 ≤ u.2.1 := k1
            have k4 : v.2.1 ≤ y2 := k2
            omega⟩
          case measure => simp [intOf]; omega
        · have hcl : decide (Lib.compareInt y2 z2 < 0) = false := decide_eq_false (fun h => hcc (hci.1 h))
          clear hci
          go_upto_region 35 with fail
          go_region_held (fun w' => w'.cell? ⟨g, d * 3, none⟩ = some (.int .i64 y1) ∧ w'.cell? ⟨g, d * 3 + 1, none⟩ = some (.int .i64 y2) ∧ w'.cell? ⟨g, d * 3 + 2, none⟩ = some (.int .i64 y3) ∧ w'.cell? ⟨g, c * 3, none⟩ = some (.int .i64 z1) ∧ w'.cell? ⟨g, c * 3 + 1, none⟩ = some (.int .i64 z2) ∧ w'.cell? ⟨g, c * 3 + 2, none⟩ = some (.int .i64 z3)) (refine ⟨?_, ?_, ?_, ?_, ?_, ?_⟩ <;> (repeat (first | assumption | apply cell_dr | apply cell_al)))
            (first
              | (go_at_call 71; refine (Calls.mono (HC _).out ?_); rintro e w' ⟨rfl, rfl⟩))
          have H2 : Hid _ := two_new HX.out (.cells #[.int .i64 y1, .int .i64 y2, .int .i64 y3] 26) (.cells #[.int .i64 z1, .int .i64 z2, .int .i64 z3] 26)
          clear c0 c1 c2 d0 d1 d2
          revert H2
          generalize (wr.alloc _).alloc _ = W2
          intro H2
          go_wp2
          go_roundw
          case rel => exact ⟨c + 1, r, by omega, by omega, hr0, by go_num, rfl, H2.out.1, gb_dn1 H2.out.2, fun e u v h1 h2 hu hv => by
            have k1 := s2_lab HSA.out hu HZ.out.1 (by omega)
            have k2 := s2_lab HSB.out HZ.out.2 hv (by have := HD.out; omega)
            have k3 : u.2.1 ≤ z2 := k1
            have k4 : y2 ≤ v.2.1 := k2
            omega, HP.out.2⟩
          case measure => simp [intOf]; omega
      · obtain rfl : s = r := by omega
        have hp2 := HM.out.2
        have hEo := HE0.out
        obtain ⟨e, he⟩ : ∃ e, e = mid + m - s := ⟨_, rfl⟩
        have heI : (mid : Int) + (m : Int) - (s : Int) = (e : Int) := by omega
        have HH0 : Hid _ := sym_pure (s := s) (mid := mid) (s0 := s0) (r0 := r0) HL.out.2.1 HL.out.2.2.1 HSA.out HSB.out HB.out HE0.out hs0 hr0 (by rw [← hp2]; exact HI.out.2.2.1) (by rw [← hp2]; exact HI.out.2.2.2)
        have eA := List.take_append_drop (s - a) A
        have eB := List.take_append_drop (mid - s) B
        have lA1 : a + (A.take (s - a)).length = s := by rw [List.length_take]; have := HL.out; omega
        have lA2 : s + (A.drop (s - a)).length = m := by rw [List.length_drop]; have := HL.out; omega
        have lB1 : s + (B.take (mid - s)).length = mid := by rw [List.length_take]; have := HL.out; omega
        have lB2 : e + (B.drop (mid - s)).length = b := by rw [List.length_drop]; have := HL.out; omega
        obtain ⟨A1, hA1⟩ : ∃ A1, A1 = A.take (s - a) := ⟨_, rfl⟩
        obtain ⟨A2, hA2⟩ : ∃ A2, A2 = A.drop (s - a) := ⟨_, rfl⟩
        obtain ⟨B1, hB1⟩ : ∃ B1, B1 = B.take (mid - s) := ⟨_, rfl⟩
        obtain ⟨B2, hB2⟩ : ∃ B2, B2 = B.drop (mid - s) := ⟨_, rfl⟩
        rw [← hA1, ← hA2] at eA
        rw [← hB1, ← hB2] at eB
        rw [← hA1] at lA1
        rw [← hA2] at lA2
        rw [← hB1] at lB1
        rw [← hB2] at lB2
        have HH : Hid (∀ M1 M2 : List E3, M1.Perm (A1 ++ B1) → M2.Perm (A2 ++ B2) → Gm.S2 M1 → Gm.S2 M2 → Gm.S2 (M1 ++ M2) ∧ (M1 ++ M2).Perm (A ++ B)) := (by rw [hA1, hA2, hB1, hB2]; exact HH0.out : ∀ M1 M2 : List E3, _)
        have HSs : Hid (Gm.S2 A1 ∧ Gm.S2 A2 ∧ Gm.S2 B1 ∧ Gm.S2 B2 ∧ (∀ x ∈ A1, ∀ y ∈ B1, Gm.ltE x y = true) ∧ (∀ x ∈ A2, ∀ y ∈ B2, Gm.ltE x y = true)) := (by
          rw [hA1, hA2, hB1, hB2]
          exact ⟨HSA.out.sublist (List.take_sublist _ _), HSA.out.sublist (List.drop_sublist _ _), HSB.out.sublist (List.take_sublist _ _), HSB.out.sublist (List.drop_sublist _ _), fun x hx y hy => HB.out x (List.mem_of_mem_take hx) y (List.mem_of_mem_take hy), fun x hx y hy => HB.out x (List.mem_of_mem_drop hx) y (List.mem_of_mem_drop hy)⟩ : _ ∧ _)
        have HLs : Hid (a + A1.length = s ∧ s + A2.length = m ∧ s + B1.length = mid ∧ e + B2.length = b ∧ A.length = A1.length + A2.length ∧ B.length = B1.length + B2.length ∧ e = mid + m - s) := (⟨lA1, lA2, lB1, lB2, by rw [← eA, List.length_append], by rw [← eB, List.length_append], he⟩ : _ ∧ _)
        have HR0 : Hid (RowE wr g cap (X ++ A1 ++ A2 ++ B1 ++ (B2 ++ Y))) := (by
          have h := HI.out.1
          rw [← eA, ← eB] at h
          simpa using h : RowE _ _ _ _)
        have HG0 : Hid (w.grownBy wr (some g)) := HI.out.2.1
        have hsm : s ≤ m := by omega
        have hsmid : s ≤ mid := by omega
        have has : a ≤ s := by omega
        have heb : e ≤ b := by omega
        have hme : m ≤ e := by omega
        have hmide : mid ≤ e := by omega
        have hnse : e + s = mid + m := by omega
        clear HI HH0 eA eB lA1 lA2 lB1 lB2 hA1 hA2 hB1 hB2 hp2 hEo he HSA HSB
        by_cases qA1 : a < s
        · by_cases qA2 : s < m
          · by_cases qB1 : s < mid
            · by_cases qB2 : e < b
              · have f1 : (s : Int) < (m : Int) := by omega
                have f2 : (m : Int) < (e : Int) := by omega
                have f3 : (a : Int) < (s : Int) := by omega
                have f4 : (s : Int) < (mid : Int) := by omega
                have f5 : (mid : Int) < (e : Int) := by omega
                have f6 : (e : Int) < (b : Int) := by omega
                have HC : Hid (Calls Tryz.prog 171 _ wr _) := rot_any (X ++ A1) A2 B1 (B2 ++ Y) s m e N g cap (.func (.func 71) #[] #[]) wr HR0.out (by rw [List.length_append]; have := HL.out; have := HLs.out; omega) (by have := HLs.out; omega) (by have := HLs.out; omega) (by rw [List.length_append]; have := HL.out; have := HLs.out; omega) (fun e => by have := HLs.out; rw [e] at this; simp at this; omega) (fun e => by have := HLs.out; rw [e] at this; simp at this; omega) hl
                go_wp2_with fail
                refine (Calls.mono HC.out ?_)
                rintro e9 w1 ⟨rfl, hr9, hg9⟩
                have HR1 : Hid (RowE w1 g cap (X ++ A1 ++ B1 ++ (A2 ++ (B2 ++ Y)))) := (by simpa using hr9 : RowE _ _ _ _)
                have HG1 : Hid (w.grownBy w1 (some g)) := HG0.out.trans hg9
                clear hr9 hg9 HC
                have HC : Hid (Calls Tryz.prog 159 _ w1 _) := HIH.out X A1 B1 (A2 ++ (B2 ++ Y)) a s mid w1 (by have := HL.out; have := HLs.out; omega) ⟨by simpa using HR1.out, HL.out.1, by have := HLs.out; omega, by have := HLs.out; omega, by simp only [List.length_append]; have := HL.out; have := HLs.out; omega, HSs.out.1, HSs.out.2.2.1, HSs.out.2.2.2.2.1, (fun e => by have := HLs.out; rw [e] at this; simp at this; omega), (fun e => by have := HLs.out; rw [e] at this; simp at this; omega)⟩
                go_wp2_with fail
                refine (Calls.mono HC.out ?_)
                rintro e9 w2 ⟨rfl, ⟨M1, hr9, hp1, hs1⟩, hg9⟩
                have HR2 : Hid (RowE w2 g cap (X ++ M1 ++ (A2 ++ (B2 ++ Y)))) := (by simpa using hr9 : RowE _ _ _ _)
                have HG2 : Hid (w.grownBy w2 (some g)) := HG1.out.trans hg9
                have HM1 : Hid (M1.Perm (A1 ++ B1) ∧ Gm.S2 M1) := And.intro hp1 hs1
                clear hr9 hg9 HC hp1 hs1
                have HC : Hid (Calls Tryz.prog 159 _ w2 _) := HIH.out (X ++ M1) A2 B2 Y mid e b w2 (by have := HL.out; have := HLs.out; omega) ⟨by simpa using HR2.out, by rw [List.length_append, HM1.out.1.length_eq, List.length_append]; have := HL.out; have := HLs.out; omega, by have := HLs.out; omega, by have := HLs.out; omega, by have := HL.out; omega, HSs.out.2.1, HSs.out.2.2.2.1, HSs.out.2.2.2.2.2, (fun e => by have := HLs.out; rw [e] at this; simp at this; omega), (fun e => by have := HLs.out; rw [e] at this; simp at this; omega)⟩
                go_wp2_with fail
                refine (Calls.mono HC.out ?_)
                rintro e9 w3 ⟨rfl, ⟨M2, hr9, hp1, hs1⟩, hg9⟩
                have HE9 : Hid ((∃ M, RowE w3 g cap (X ++ M ++ Y) ∧ M.Perm (A ++ B) ∧ Gm.S2 M) ∧ w.grownBy w3 (some g)) := (by
                  have hh := HH.out M1 M2 HM1.out.1 hp1 HM1.out.2 hs1
                  exact ⟨⟨M1 ++ M2, by simpa using hr9, hh.2, hh.1⟩, HG2.out.trans hg9⟩ : _ ∧ _)
                clear hr9 hg9 HC hp1 hs1
                go_wp2
                all_goals go_end0
                all_goals (first | exact ⟨rfl, HE9.out⟩ | exact ⟨rfl, by simpa using HE9.out⟩)
              · have f1 : (s : Int) < (m : Int) := by omega
                have f2 : (m : Int) < (e : Int) := by omega
                have f3 : (a : Int) < (s : Int) := by omega
                have f4 : (s : Int) < (mid : Int) := by omega
                have f5 : (mid : Int) < (e : Int) := by omega
                have f6 : ¬ (e : Int) < (b : Int) := by omega
                have HC : Hid (Calls Tryz.prog 171 _ wr _) := rot_any (X ++ A1) A2 B1 (B2 ++ Y) s m e N g cap (.func (.func 71) #[] #[]) wr HR0.out (by rw [List.length_append]; have := HL.out; have := HLs.out; omega) (by have := HLs.out; omega) (by have := HLs.out; omega) (by rw [List.length_append]; have := HL.out; have := HLs.out; omega) (fun e => by have := HLs.out; rw [e] at this; simp at this; omega) (fun e => by have := HLs.out; rw [e] at this; simp at this; omega) hl
                go_wp2_with fail
                refine (Calls.mono HC.out ?_)
                rintro e9 w1 ⟨rfl, hr9, hg9⟩
                have HR1 : Hid (RowE w1 g cap (X ++ A1 ++ B1 ++ (A2 ++ (B2 ++ Y)))) := (by simpa using hr9 : RowE _ _ _ _)
                have HG1 : Hid (w.grownBy w1 (some g)) := HG0.out.trans hg9
                clear hr9 hg9 HC
                have HC : Hid (Calls Tryz.prog 159 _ w1 _) := HIH.out X A1 B1 (A2 ++ (B2 ++ Y)) a s mid w1 (by have := HL.out; have := HLs.out; omega) ⟨by simpa using HR1.out, HL.out.1, by have := HLs.out; omega, by have := HLs.out; omega, by simp only [List.length_append]; have := HL.out; have := HLs.out; omega, HSs.out.1, HSs.out.2.2.1, HSs.out.2.2.2.2.1, (fun e => by have := HLs.out; rw [e] at this; simp at this; omega), (fun e => by have := HLs.out; rw [e] at this; simp at this; omega)⟩
                go_wp2_with fail
                refine (Calls.mono HC.out ?_)
                rintro e9 w2 ⟨rfl, ⟨M1, hr9, hp1, hs1⟩, hg9⟩
                have HR2 : Hid (RowE w2 g cap (X ++ M1 ++ (A2 ++ (B2 ++ Y)))) := (by simpa using hr9 : RowE _ _ _ _)
                have HG2 : Hid (w.grownBy w2 (some g)) := HG1.out.trans hg9
                have HM1 : Hid (M1.Perm (A1 ++ B1) ∧ Gm.S2 M1) := And.intro hp1 hs1
                clear hr9 hg9 HC hp1 hs1
                have HE9 : Hid ((∃ M, RowE w2 g cap (X ++ M ++ Y) ∧ M.Perm (A ++ B) ∧ Gm.S2 M) ∧ w.grownBy w2 (some g)) := (by
                  obtain e8 : B2 = [] := List.eq_nil_of_length_eq_zero (by have := HLs.out; omega)
                  have hh := HH.out M1 (A2 ++ B2) HM1.out.1 (List.Perm.refl _) HM1.out.2 (by rw [e8, List.append_nil]; exact HSs.out.2.1)
                  exact ⟨⟨M1 ++ (A2 ++ B2), by simpa using HR2.out, hh.2, hh.1⟩, HG2.out⟩ : _ ∧ _)
                go_wp2
                all_goals go_end0
                all_goals (first | exact ⟨rfl, HE9.out⟩ | exact ⟨rfl, by simpa using HE9.out⟩)
            · by_cases qB2 : e < b
              · have f1 : (s : Int) < (m : Int) := by omega
                have f2 : ¬ (m : Int) < (e : Int) := by omega
                have f3 : (a : Int) < (s : Int) := by omega
                have f4 : ¬ (s : Int) < (mid : Int) := by omega
                have f5 : (mid : Int) < (e : Int) := by omega
                have f6 : (e : Int) < (b : Int) := by omega
                have HR1 : Hid (RowE wr g cap (X ++ A1 ++ B1 ++ (A2 ++ (B2 ++ Y)))) := (by
                  obtain e8 : B1 = [] := List.eq_nil_of_length_eq_zero (by have := HLs.out; omega)
                  have h := HR0.out
                  rw [e8] at h ⊢
                  simpa using h : RowE _ _ _ _)
                have HG1 : Hid (w.grownBy wr (some g)) := HG0.out
                obtain ⟨M1, hM1⟩ : ∃ M1, M1 = A1 ++ B1 := ⟨_, rfl⟩
                have HR2 : Hid (RowE wr g cap (X ++ M1 ++ (A2 ++ (B2 ++ Y)))) := (by rw [hM1]; simpa using HR1.out : RowE _ _ _ _)
                have HG2 : Hid (w.grownBy wr (some g)) := HG1.out
                have HM1 : Hid (M1.Perm (A1 ++ B1) ∧ Gm.S2 M1) := (by
                  rw [hM1]
                  obtain e8 : B1 = [] := List.eq_nil_of_length_eq_zero (by have := HLs.out; omega)
                  exact ⟨List.Perm.refl _, by rw [e8, List.append_nil]; exact HSs.out.1⟩ : _ ∧ _)
                clear hM1
                have HC : Hid (Calls Tryz.prog 159 _ wr _) := HIH.out (X ++ M1) A2 B2 Y mid e b wr (by have := HL.out; have := HLs.out; omega) ⟨by simpa using HR2.out, by rw [List.length_append, HM1.out.1.length_eq, List.length_append]; have := HL.out; have := HLs.out; omega, by have := HLs.out; omega, by have := HLs.out; omega, by have := HL.out; omega, HSs.out.2.1, HSs.out.2.2.2.1, HSs.out.2.2.2.2.2, (fun e => by have := HLs.out; rw [e] at this; simp at this; omega), (fun e => by have := HLs.out; rw [e] at this; simp at this; omega)⟩
                go_wp2_with fail
                refine (Calls.mono HC.out ?_)
                rintro e9 w3 ⟨rfl, ⟨M2, hr9, hp1, hs1⟩, hg9⟩
                have HE9 : Hid ((∃ M, RowE w3 g cap (X ++ M ++ Y) ∧ M.Perm (A ++ B) ∧ Gm.S2 M) ∧ w.grownBy w3 (some g)) := (by
                  have hh := HH.out M1 M2 HM1.out.1 hp1 HM1.out.2 hs1
                  exact ⟨⟨M1 ++ M2, by simpa using hr9, hh.2, hh.1⟩, HG2.out.trans hg9⟩ : _ ∧ _)
                clear hr9 hg9 HC hp1 hs1
                go_wp2
                all_goals go_end0
                all_goals (first | exact ⟨rfl, HE9.out⟩ | exact ⟨rfl, by simpa using HE9.out⟩)
              · exfalso; have := HL.out; have := HLs.out; have := HM.out; omega
          · by_cases qB1 : s < mid
            · by_cases qB2 : e < b
              · have f1 : ¬ (s : Int) < (m : Int) := by omega
                have f2 : (m : Int) < (e : Int) := by omega
                have f3 : (a : Int) < (s : Int) := by omega
                have f4 : (s : Int) < (mid : Int) := by omega
                have f5 : ¬ (mid : Int) < (e : Int) := by omega
                have f6 : (e : Int) < (b : Int) := by omega
                have HR1 : Hid (RowE wr g cap (X ++ A1 ++ B1 ++ (A2 ++ (B2 ++ Y)))) := (by
                  obtain e8 : A2 = [] := List.eq_nil_of_length_eq_zero (by have := HLs.out; omega)
                  have h := HR0.out
                  rw [e8] at h ⊢
                  simpa using h : RowE _ _ _ _)
                have HG1 : Hid (w.grownBy wr (some g)) := HG0.out
                have HC : Hid (Calls Tryz.prog 159 _ wr _) := HIH.out X A1 B1 (A2 ++ (B2 ++ Y)) a s mid wr (by have := HL.out; have := HLs.out; omega) ⟨by simpa using HR1.out, HL.out.1, by have := HLs.out; omega, by have := HLs.out; omega, by simp only [List.length_append]; have := HL.out; have := HLs.out; omega, HSs.out.1, HSs.out.2.2.1, HSs.out.2.2.2.2.1, (fun e => by have := HLs.out; rw [e] at this; simp at this; omega), (fun e => by have := HLs.out; rw [e] at this; simp at this; omega)⟩
                go_wp2_with fail
                refine (Calls.mono HC.out ?_)
                rintro e9 w2 ⟨rfl, ⟨M1, hr9, hp1, hs1⟩, hg9⟩
                have HR2 : Hid (RowE w2 g cap (X ++ M1 ++ (A2 ++ (B2 ++ Y)))) := (by simpa using hr9 : RowE _ _ _ _)
                have HG2 : Hid (w.grownBy w2 (some g)) := HG1.out.trans hg9
                have HM1 : Hid (M1.Perm (A1 ++ B1) ∧ Gm.S2 M1) := And.intro hp1 hs1
                clear hr9 hg9 HC hp1 hs1
                have HE9 : Hid ((∃ M, RowE w2 g cap (X ++ M ++ Y) ∧ M.Perm (A ++ B) ∧ Gm.S2 M) ∧ w.grownBy w2 (some g)) := (by
                  obtain e8 : A2 = [] := List.eq_nil_of_length_eq_zero (by have := HLs.out; omega)
                  have hh := HH.out M1 (A2 ++ B2) HM1.out.1 (List.Perm.refl _) HM1.out.2 (by rw [e8]; exact HSs.out.2.2.2.1)
                  exact ⟨⟨M1 ++ (A2 ++ B2), by simpa using HR2.out, hh.2, hh.1⟩, HG2.out⟩ : _ ∧ _)
                go_wp2
                all_goals go_end0
                all_goals (first | exact ⟨rfl, HE9.out⟩ | exact ⟨rfl, by simpa using HE9.out⟩)
              · exfalso; have := HL.out; have := HLs.out; have := HM.out; omega
            · by_cases qB2 : e < b
              · have f1 : ¬ (s : Int) < (m : Int) := by omega
                have f2 : ¬ (m : Int) < (e : Int) := by omega
                have f3 : (a : Int) < (s : Int) := by omega
                have f4 : ¬ (s : Int) < (mid : Int) := by omega
                have f5 : ¬ (mid : Int) < (e : Int) := by omega
                have f6 : (e : Int) < (b : Int) := by omega
                have HR1 : Hid (RowE wr g cap (X ++ A1 ++ B1 ++ (A2 ++ (B2 ++ Y)))) := (by
                  obtain e8 : A2 = [] := List.eq_nil_of_length_eq_zero (by have := HLs.out; omega)
                  have h := HR0.out
                  rw [e8] at h ⊢
                  simpa using h : RowE _ _ _ _)
                have HG1 : Hid (w.grownBy wr (some g)) := HG0.out
                obtain ⟨M1, hM1⟩ : ∃ M1, M1 = A1 ++ B1 := ⟨_, rfl⟩
                have HR2 : Hid (RowE wr g cap (X ++ M1 ++ (A2 ++ (B2 ++ Y)))) := (by rw [hM1]; simpa using HR1.out : RowE _ _ _ _)
                have HG2 : Hid (w.grownBy wr (some g)) := HG1.out
                have HM1 : Hid (M1.Perm (A1 ++ B1) ∧ Gm.S2 M1) := (by
                  rw [hM1]
                  obtain e8 : B1 = [] := List.eq_nil_of_length_eq_zero (by have := HLs.out; omega)
                  exact ⟨List.Perm.refl _, by rw [e8, List.append_nil]; exact HSs.out.1⟩ : _ ∧ _)
                clear hM1
                have HE9 : Hid ((∃ M, RowE wr g cap (X ++ M ++ Y) ∧ M.Perm (A ++ B) ∧ Gm.S2 M) ∧ w.grownBy wr (some g)) := (by
                  obtain e8 : A2 = [] := List.eq_nil_of_length_eq_zero (by have := HLs.out; omega)
                  have hh := HH.out M1 (A2 ++ B2) HM1.out.1 (List.Perm.refl _) HM1.out.2 (by rw [e8]; exact HSs.out.2.2.2.1)
                  exact ⟨⟨M1 ++ (A2 ++ B2), by simpa using HR2.out, hh.2, hh.1⟩, HG2.out⟩ : _ ∧ _)
                go_wp2
                all_goals go_end0
                all_goals (first | exact ⟨rfl, HE9.out⟩ | exact ⟨rfl, by simpa using HE9.out⟩)
              · exfalso; have := HL.out; have := HLs.out; have := HM.out; omega
        · by_cases qA2 : s < m
          · by_cases qB1 : s < mid
            · by_cases qB2 : e < b
              · have f1 : (s : Int) < (m : Int) := by omega
                have f2 : (m : Int) < (e : Int) := by omega
                have f3 : ¬ (a : Int) < (s : Int) := by omega
                have f4 : (s : Int) < (mid : Int) := by omega
                have f5 : (mid : Int) < (e : Int) := by omega
                have f6 : (e : Int) < (b : Int) := by omega
                have HC : Hid (Calls Tryz.prog 171 _ wr _) := rot_any (X ++ A1) A2 B1 (B2 ++ Y) s m e N g cap (.func (.func 71) #[] #[]) wr HR0.out (by rw [List.length_append]; have := HL.out; have := HLs.out; omega) (by have := HLs.out; omega) (by have := HLs.out; omega) (by rw [List.length_append]; have := HL.out; have := HLs.out; omega) (fun e => by have := HLs.out; rw [e] at this; simp at this; omega) (fun e => by have := HLs.out; rw [e] at this; simp at this; omega) hl
                go_wp2_with fail
                refine (Calls.mono HC.out ?_)
                rintro e9 w1 ⟨rfl, hr9, hg9⟩
                have HR1 : Hid (RowE w1 g cap (X ++ A1 ++ B1 ++ (A2 ++ (B2 ++ Y)))) := (by simpa using hr9 : RowE _ _ _ _)
                have HG1 : Hid (w.grownBy w1 (some g)) := HG0.out.trans hg9
                clear hr9 hg9 HC
                obtain ⟨M1, hM1⟩ : ∃ M1, M1 = A1 ++ B1 := ⟨_, rfl⟩
                have HR2 : Hid (RowE w1 g cap (X ++ M1 ++ (A2 ++ (B2 ++ Y)))) := (by rw [hM1]; simpa using HR1.out : RowE _ _ _ _)
                have HG2 : Hid (w.grownBy w1 (some g)) := HG1.out
                have HM1 : Hid (M1.Perm (A1 ++ B1) ∧ Gm.S2 M1) := (by
                  rw [hM1]
                  obtain e8 : A1 = [] := List.eq_nil_of_length_eq_zero (by have := HLs.out; omega)
                  exact ⟨List.Perm.refl _, by rw [e8]; exact HSs.out.2.2.1⟩ : _ ∧ _)
                clear hM1
                have HC : Hid (Calls Tryz.prog 159 _ w1 _) := HIH.out (X ++ M1) A2 B2 Y mid e b w1 (by have := HL.out; have := HLs.out; omega) ⟨by simpa using HR2.out, by rw [List.length_append, HM1.out.1.length_eq, List.length_append]; have := HL.out; have := HLs.out; omega, by have := HLs.out; omega, by have := HLs.out; omega, by have := HL.out; omega, HSs.out.2.1, HSs.out.2.2.2.1, HSs.out.2.2.2.2.2, (fun e => by have := HLs.out; rw [e] at this; simp at this; omega), (fun e => by have := HLs.out; rw [e] at this; simp at this; omega)⟩
                go_wp2_with fail
                refine (Calls.mono HC.out ?_)
                rintro e9 w3 ⟨rfl, ⟨M2, hr9, hp1, hs1⟩, hg9⟩
                have HE9 : Hid ((∃ M, RowE w3 g cap (X ++ M ++ Y) ∧ M.Perm (A ++ B) ∧ Gm.S2 M) ∧ w.grownBy w3 (some g)) := (by
                  have hh := HH.out M1 M2 HM1.out.1 hp1 HM1.out.2 hs1
                  exact ⟨⟨M1 ++ M2, by simpa using hr9, hh.2, hh.1⟩, HG2.out.trans hg9⟩ : _ ∧ _)
                clear hr9 hg9 HC hp1 hs1
                go_wp2
                all_goals go_end0
                all_goals (first | exact ⟨rfl, HE9.out⟩ | exact ⟨rfl, by simpa using HE9.out⟩)
              · have f1 : (s : Int) < (m : Int) := by omega
                have f2 : (m : Int) < (e : Int) := by omega
                have f3 : ¬ (a : Int) < (s : Int) := by omega
                have f4 : (s : Int) < (mid : Int) := by omega
                have f5 : (mid : Int) < (e : Int) := by omega
                have f6 : ¬ (e : Int) < (b : Int) := by omega
                have HC : Hid (Calls Tryz.prog 171 _ wr _) := rot_any (X ++ A1) A2 B1 (B2 ++ Y) s m e N g cap (.func (.func 71) #[] #[]) wr HR0.out (by rw [List.length_append]; have := HL.out; have := HLs.out; omega) (by have := HLs.out; omega) (by have := HLs.out; omega) (by rw [List.length_append]; have := HL.out; have := HLs.out; omega) (fun e => by have := HLs.out; rw [e] at this; simp at this; omega) (fun e => by have := HLs.out; rw [e] at this; simp at this; omega) hl
                go_wp2_with fail
                refine (Calls.mono HC.out ?_)
                rintro e9 w1 ⟨rfl, hr9, hg9⟩
                have HR1 : Hid (RowE w1 g cap (X ++ A1 ++ B1 ++ (A2 ++ (B2 ++ Y)))) := (by simpa using hr9 : RowE _ _ _ _)
                have HG1 : Hid (w.grownBy w1 (some g)) := HG0.out.trans hg9
                clear hr9 hg9 HC
                obtain ⟨M1, hM1⟩ : ∃ M1, M1 = A1 ++ B1 := ⟨_, rfl⟩
                have HR2 : Hid (RowE w1 g cap (X ++ M1 ++ (A2 ++ (B2 ++ Y)))) := (by rw [hM1]; simpa using HR1.out : RowE _ _ _ _)
                have HG2 : Hid (w.grownBy w1 (some g)) := HG1.out
                have HM1 : Hid (M1.Perm (A1 ++ B1) ∧ Gm.S2 M1) := (by
                  rw [hM1]
                  obtain e8 : A1 = [] := List.eq_nil_of_length_eq_zero (by have := HLs.out; omega)
                  exact ⟨List.Perm.refl _, by rw [e8]; exact HSs.out.2.2.1⟩ : _ ∧ _)
                clear hM1
                have HE9 : Hid ((∃ M, RowE w1 g cap (X ++ M ++ Y) ∧ M.Perm (A ++ B) ∧ Gm.S2 M) ∧ w.grownBy w1 (some g)) := (by
                  obtain e8 : B2 = [] := List.eq_nil_of_length_eq_zero (by have := HLs.out; omega)
                  have hh := HH.out M1 (A2 ++ B2) HM1.out.1 (List.Perm.refl _) HM1.out.2 (by rw [e8, List.append_nil]; exact HSs.out.2.1)
                  exact ⟨⟨M1 ++ (A2 ++ B2), by simpa using HR2.out, hh.2, hh.1⟩, HG2.out⟩ : _ ∧ _)
                go_wp2
                all_goals go_end0
                all_goals (first | exact ⟨rfl, HE9.out⟩ | exact ⟨rfl, by simpa using HE9.out⟩)
            · by_cases qB2 : e < b
              · exfalso; have := HL.out; have := HLs.out; have := HM.out; omega
              · exfalso; have := HL.out; have := HLs.out; have := HM.out; omega
          · by_cases qB1 : s < mid
            · by_cases qB2 : e < b
              · exfalso; have := HL.out; have := HLs.out; have := HM.out; omega
              · exfalso; have := HL.out; have := HLs.out; have := HM.out; omega
            · by_cases qB2 : e < b
              · exfalso; have := HL.out; have := HLs.out; have := HM.out; omega
              · exfalso; have := HL.out; have := HLs.out; have := HM.out; omega
  · rw [if_neg hmm] at hs hr
    have HEs : Hid (Value.int .i64 (a : Int) = .int .i64 (s0 : Int)) := (by rw [hs] : _ = _)
    have HEr : Hid (Value.int .i64 (m : Int) = .int .i64 (r0 : Int)) := (by rw [hr] : _ = _)
    have hrN : r0 ≤ N := by omega
    clear hs hr
    go_enter Tryz.func159, Tryz.ntmps159
    go_wp2
    go_loopw [20, 21] (fun ss sr wr => ∃ s r : Nat, s0 ≤ s ∧ s ≤ r ∧ r ≤ r0 ∧ ss = .int .i64 (s : Int) ∧ sr = .int .i64 (r : Int) ∧ Hid (RowE wr g cap (X ++ A ++ B ++ Y) ∧ w.grownBy wr (some g) ∧ (∀ c x y, s0 ≤ c → c < s → A[c - a]? = some x → B[p - c - m]? = some y → x.2.1 ≤ y.2.1) ∧ (∀ c x y, r ≤ c → c < r0 → A[c - a]? = some x → B[p - c - m]? = some y → y.2.1 < x.2.1))) (fun ss sr _ => (intOf sr).toNat - (intOf ss).toNat)
    case atStart => exact ⟨s0, r0, Nat.le_refl _, hsr, Nat.le_refl _, (by first | rfl | exact HEs.out), (by first | rfl | exact HEr.out), H0.out, ⟨rfl, rfl, rfl, Nat.le_refl _, fun _ _ _ => rfl⟩, fun c x y _ h2 => by omega, fun c x y h1 h2 => by omega⟩
    case round =>
      obtain ⟨s, r, hs0, hsr2, hr0, rfl, rfl, HI⟩ := hrel
      by_cases hlt : s < r
      · obtain ⟨c, hc⟩ : ∃ c, c = (s + r) / 2 := ⟨_, rfl⟩
        have hh : ((s : Int) + (r : Int)) / 2 = (c : Int) := by omega
        have hcs : s ≤ c := by omega
        have hcr : c < r := by omega
        obtain ⟨hca, hcm, hpm, hpb⟩ := HC0.out c (by omega) (by omega)
        obtain ⟨d, hd⟩ : ∃ d, d = p - c := ⟨_, rfl⟩
        have hpc : (p : Int) - (c : Int) = (d : Int) := by omega
        have hdw : IntKind.i64.wrap (d : Int) = (d : Int) := by rw [IntKind.wrap_i64]; omega
        obtain ⟨z, hz⟩ : ∃ z, A[c - a]? = some z := ⟨_, List.getElem?_eq_getElem (by have := HL.out; omega)⟩
        obtain ⟨y, hy⟩ : ∃ y, B[d - m]? = some y := ⟨_, List.getElem?_eq_getElem (by have := HL.out; omega)⟩
        have hzq := HAA.out _ _ hz
        rw [show a + (c - a) = c by omega] at hzq
        have hyq := HBA.out _ _ hy
        rw [show m + (d - m) = d by omega] at hyq
        obtain ⟨c0, c1, c2⟩ := HI.out.1.cells hzq
        obtain ⟨d0, d1, d2⟩ := HI.out.1.cells hyq
        have HZ : Hid _ := And.intro hz hy
        have hcN : c < N := by omega
        have hdN : d < N := by omega
        have HD : Hid _ := And.intro hd (And.intro hpm hpb)
        clear hz hy hzq hyq hc hd hpm hpb
        have HX : Hid (RowE wr g cap (X ++ A ++ B ++ Y) ∧ w.grownBy wr (some g)) := (⟨HI.out.1, HI.out.2.1⟩ : _ ∧ _)
        have HP : Hid ((∀ c x y, s0 ≤ c → c < s → A[c - a]? = some x → B[p - c - m]? = some y → x.2.1 ≤ y.2.1) ∧ (∀ c x y, r ≤ c → c < r0 → A[c - a]? = some x → B[p - c - m]? = some y → y.2.1 < x.2.1)) := HI.out.2.2
        clear HI
        obtain ⟨y1, y2, y3⟩ := y
        obtain ⟨z1, z2, z3⟩ := z
        dsimp only at c0 c1 c2 d0 d1 d2
        have HC : ∀ W, Hid (Calls Tryz.prog 71 _ W _) := fun W => cmplab_any y1 y2 y3 z1 z2 z3 W
        have hci := cmpI_lt y2 z2
        by_cases hcc : y2 < z2
        · have hcl : decide (Lib.compareInt y2 z2 < 0) = true := decide_eq_true (hci.2 hcc)
          clear hci
          go_upto_region 35 with fail
          go_region_held (fun w' => w'.cell? ⟨g, d * 3, none⟩ = some (.int .i64 y1) ∧ w'.cell? ⟨g, d * 3 + 1, none⟩ = some (.int .i64 y2) ∧ w'.cell? ⟨g, d * 3 + 2, none⟩ = some (.int .i64 y3) ∧ w'.cell? ⟨g, c * 3, none⟩ = some (.int .i64 z1) ∧ w'.cell? ⟨g, c * 3 + 1, none⟩ = some (.int .i64 z2) ∧ w'.cell? ⟨g, c * 3 + 2, none⟩ = some (.int .i64 z3)) (refine ⟨?_, ?_, ?_, ?_, ?_, ?_⟩ <;> (repeat (first | assumption | apply cell_dr | apply cell_al)))
            (first
              | (go_at_call 71; refine (Calls.mono (HC _).out ?_); rintro e w' ⟨rfl, rfl⟩))
          have H2 : Hid _ := two_new HX.out (.cells #[.int .i64 y1, .int .i64 y2, .int .i64 y3] 26) (.cells #[.int .i64 z1, .int .i64 z2, .int .i64 z3] 26)
          clear c0 c1 c2 d0 d1 d2
          revert H2
          generalize (wr.alloc _).alloc _ = W2
          intro H2
          go_wp2
          go_roundw
          case rel => exact ⟨s, c, hs0, by omega, by omega, rfl, rfl, H2.out.1, gb_dn1 H2.out.2, HP.out.1, fun e u v h1 h2 hu hv => by
            have k1 := s2_lab HSA.out HZ.out.1 hu (by omega)
            have k2 := s2_lab HSB.out hv HZ.out.2 (by have := HD.out; omega)
            have k3 : z2 ≤ u.2.1 := k1
            have k4 : v.2.1 ≤ y2 := k2
            omega⟩
          case measure => simp [intOf]; omega
        · have hcl : decide (Lib.compareInt y2 z2 < 0) = false := decide_eq_false (fun h => hcc (hci.1 h))
          clear hci
          go_upto_region 35 with fail
          go_region_held (fun w' => w'.cell? ⟨g, d * 3, none⟩ = some (.int .i64 y1) ∧ w'.cell? ⟨g, d * 3 + 1, none⟩ = some (.int .i64 y2) ∧ w'.cell? ⟨g, d * 3 + 2, none⟩ = some (.int .i64 y3) ∧ w'.cell? ⟨g, c * 3, none⟩ = some (.int .i64 z1) ∧ w'.cell? ⟨g, c * 3 + 1, none⟩ = some (.int .i64 z2) ∧ w'.cell? ⟨g, c * 3 + 2, none⟩ = some (.int .i64 z3)) (refine ⟨?_, ?_, ?_, ?_, ?_, ?_⟩ <;> (repeat (first | assumption | apply cell_dr | apply cell_al)))
            (first
              | (go_at_call 71; refine (Calls.mono (HC _).out ?_); rintro e w' ⟨rfl, rfl⟩))
          have H2 : Hid _ := two_new HX.out (.cells #[.int .i64 y1, .int .i64 y2, .int .i64 y3] 26) (.cells #[.int .i64 z1, .int .i64 z2, .int .i64 z3] 26)
          clear c0 c1 c2 d0 d1 d2
          revert H2
          generalize (wr.alloc _).alloc _ = W2
          intro H2
          go_wp2
          go_roundw
          case rel => exact ⟨c + 1, r, by omega, by omega, hr0, by go_num, rfl, H2.out.1, gb_dn1 H2.out.2, fun e u v h1 h2 hu hv => by
            have k1 := s2_lab HSA.out hu HZ.out.1 (by omega)
            have k2 := s2_lab HSB.out HZ.out.2 hv (by have := HD.out; omega)
            have k3 : u.2.1 ≤ z2 := k1
            have k4 : y2 ≤ v.2.1 := k2
            omega, HP.out.2⟩
          case measure => simp [intOf]; omega
      · obtain rfl : s = r := by omega
        have hp2 := HM.out.2
        have hEo := HE0.out
        obtain ⟨e, he⟩ : ∃ e, e = mid + m - s := ⟨_, rfl⟩
        have heI : (mid : Int) + (m : Int) - (s : Int) = (e : Int) := by omega
        have HH0 : Hid _ := sym_pure (s := s) (mid := mid) (s0 := s0) (r0 := r0) HL.out.2.1 HL.out.2.2.1 HSA.out HSB.out HB.out HE0.out hs0 hr0 (by rw [← hp2]; exact HI.out.2.2.1) (by rw [← hp2]; exact HI.out.2.2.2)
        have eA := List.take_append_drop (s - a) A
        have eB := List.take_append_drop (mid - s) B
        have lA1 : a + (A.take (s - a)).length = s := by rw [List.length_take]; have := HL.out; omega
        have lA2 : s + (A.drop (s - a)).length = m := by rw [List.length_drop]; have := HL.out; omega
        have lB1 : s + (B.take (mid - s)).length = mid := by rw [List.length_take]; have := HL.out; omega
        have lB2 : e + (B.drop (mid - s)).length = b := by rw [List.length_drop]; have := HL.out; omega
        obtain ⟨A1, hA1⟩ : ∃ A1, A1 = A.take (s - a) := ⟨_, rfl⟩
        obtain ⟨A2, hA2⟩ : ∃ A2, A2 = A.drop (s - a) := ⟨_, rfl⟩
        obtain ⟨B1, hB1⟩ : ∃ B1, B1 = B.take (mid - s) := ⟨_, rfl⟩
        obtain ⟨B2, hB2⟩ : ∃ B2, B2 = B.drop (mid - s) := ⟨_, rfl⟩
        rw [← hA1, ← hA2] at eA
        rw [← hB1, ← hB2] at eB
        rw [← hA1] at lA1
        rw [← hA2] at lA2
        rw [← hB1] at lB1
        rw [← hB2] at lB2
        have HH : Hid (∀ M1 M2 : List E3, M1.Perm (A1 ++ B1) → M2.Perm (A2 ++ B2) → Gm.S2 M1 → Gm.S2 M2 → Gm.S2 (M1 ++ M2) ∧ (M1 ++ M2).Perm (A ++ B)) := (by rw [hA1, hA2, hB1, hB2]; exact HH0.out : ∀ M1 M2 : List E3, _)
        have HSs : Hid (Gm.S2 A1 ∧ Gm.S2 A2 ∧ Gm.S2 B1 ∧ Gm.S2 B2 ∧ (∀ x ∈ A1, ∀ y ∈ B1, Gm.ltE x y = true) ∧ (∀ x ∈ A2, ∀ y ∈ B2, Gm.ltE x y = true)) := (by
          rw [hA1, hA2, hB1, hB2]
          exact ⟨HSA.out.sublist (List.take_sublist _ _), HSA.out.sublist (List.drop_sublist _ _), HSB.out.sublist (List.take_sublist _ _), HSB.out.sublist (List.drop_sublist _ _), fun x hx y hy => HB.out x (List.mem_of_mem_take hx) y (List.mem_of_mem_take hy), fun x hx y hy => HB.out x (List.mem_of_mem_drop hx) y (List.mem_of_mem_drop hy)⟩ : _ ∧ _)
        have HLs : Hid (a + A1.length = s ∧ s + A2.length = m ∧ s + B1.length = mid ∧ e + B2.length = b ∧ A.length = A1.length + A2.length ∧ B.length = B1.length + B2.length ∧ e = mid + m - s) := (⟨lA1, lA2, lB1, lB2, by rw [← eA, List.length_append], by rw [← eB, List.length_append], he⟩ : _ ∧ _)
        have HR0 : Hid (RowE wr g cap (X ++ A1 ++ A2 ++ B1 ++ (B2 ++ Y))) := (by
          have h := HI.out.1
          rw [← eA, ← eB] at h
          simpa using h : RowE _ _ _ _)
        have HG0 : Hid (w.grownBy wr (some g)) := HI.out.2.1
        have hsm : s ≤ m := by omega
        have hsmid : s ≤ mid := by omega
        have has : a ≤ s := by omega
        have heb : e ≤ b := by omega
        have hme : m ≤ e := by omega
        have hmide : mid ≤ e := by omega
        have hnse : e + s = mid + m := by omega
        clear HI HH0 eA eB lA1 lA2 lB1 lB2 hA1 hA2 hB1 hB2 hp2 hEo he HSA HSB
        by_cases qA1 : a < s
        · by_cases qA2 : s < m
          · by_cases qB1 : s < mid
            · by_cases qB2 : e < b
              · have f1 : (s : Int) < (m : Int) := by omega
                have f2 : (m : Int) < (e : Int) := by omega
                have f3 : (a : Int) < (s : Int) := by omega
                have f4 : (s : Int) < (mid : Int) := by omega
                have f5 : (mid : Int) < (e : Int) := by omega
                have f6 : (e : Int) < (b : Int) := by omega
                have HC : Hid (Calls Tryz.prog 171 _ wr _) := rot_any (X ++ A1) A2 B1 (B2 ++ Y) s m e N g cap (.func (.func 71) #[] #[]) wr HR0.out (by rw [List.length_append]; have := HL.out; have := HLs.out; omega) (by have := HLs.out; omega) (by have := HLs.out; omega) (by rw [List.length_append]; have := HL.out; have := HLs.out; omega) (fun e => by have := HLs.out; rw [e] at this; simp at this; omega) (fun e => by have := HLs.out; rw [e] at this; simp at this; omega) hl
                go_wp2_with fail
                refine (Calls.mono HC.out ?_)
                rintro e9 w1 ⟨rfl, hr9, hg9⟩
                have HR1 : Hid (RowE w1 g cap (X ++ A1 ++ B1 ++ (A2 ++ (B2 ++ Y)))) := (by simpa using hr9 : RowE _ _ _ _)
                have HG1 : Hid (w.grownBy w1 (some g)) := HG0.out.trans hg9
                clear hr9 hg9 HC
                have HC : Hid (Calls Tryz.prog 159 _ w1 _) := HIH.out X A1 B1 (A2 ++ (B2 ++ Y)) a s mid w1 (by have := HL.out; have := HLs.out; omega) ⟨by simpa using HR1.out, HL.out.1, by have := HLs.out; omega, by have := HLs.out; omega, by simp only [List.length_append]; have := HL.out; have := HLs.out; omega, HSs.out.1, HSs.out.2.2.1, HSs.out.2.2.2.2.1, (fun e => by have := HLs.out; rw [e] at this; simp at this; omega), (fun e => by have := HLs.out; rw [e] at this; simp at this; omega)⟩
                go_wp2_with fail
                refine (Calls.mono HC.out ?_)
                rintro e9 w2 ⟨rfl, ⟨M1, hr9, hp1, hs1⟩, hg9⟩
                have HR2 : Hid (RowE w2 g cap (X ++ M1 ++ (A2 ++ (B2 ++ Y)))) := (by simpa using hr9 : RowE _ _ _ _)
                have HG2 : Hid (w.grownBy w2 (some g)) := HG1.out.trans hg9
                have HM1 : Hid (M1.Perm (A1 ++ B1) ∧ Gm.S2 M1) := And.intro hp1 hs1
                clear hr9 hg9 HC hp1 hs1
                have HC : Hid (Calls Tryz.prog 159 _ w2 _) := HIH.out (X ++ M1) A2 B2 Y mid e b w2 (by have := HL.out; have := HLs.out; omega) ⟨by simpa using HR2.out, by rw [List.length_append, HM1.out.1.length_eq, List.length_append]; have := HL.out; have := HLs.out; omega, by have := HLs.out; omega, by have := HLs.out; omega, by have := HL.out; omega, HSs.out.2.1, HSs.out.2.2.2.1, HSs.out.2.2.2.2.2, (fun e => by have := HLs.out; rw [e] at this; simp at this; omega), (fun e => by have := HLs.out; rw [e] at this; simp at this; omega)⟩
                go_wp2_with fail
                refine (Calls.mono HC.out ?_)
                rintro e9 w3 ⟨rfl, ⟨M2, hr9, hp1, hs1⟩, hg9⟩
                have HE9 : Hid ((∃ M, RowE w3 g cap (X ++ M ++ Y) ∧ M.Perm (A ++ B) ∧ Gm.S2 M) ∧ w.grownBy w3 (some g)) := (by
                  have hh := HH.out M1 M2 HM1.out.1 hp1 HM1.out.2 hs1
                  exact ⟨⟨M1 ++ M2, by simpa using hr9, hh.2, hh.1⟩, HG2.out.trans hg9⟩ : _ ∧ _)
                clear hr9 hg9 HC hp1 hs1
                go_wp2
                all_goals go_end0
                all_goals (first | exact ⟨rfl, HE9.out⟩ | exact ⟨rfl, by simpa using HE9.out⟩)
              · have f1 : (s : Int) < (m : Int) := by omega
                have f2 : (m : Int) < (e : Int) := by omega
                have f3 : (a : Int) < (s : Int) := by omega
                have f4 : (s : Int) < (mid : Int) := by omega
                have f5 : (mid : Int) < (e : Int) := by omega
                have f6 : ¬ (e : Int) < (b : Int) := by omega
                have HC : Hid (Calls Tryz.prog 171 _ wr _) := rot_any (X ++ A1) A2 B1 (B2 ++ Y) s m e N g cap (.func (.func 71) #[] #[]) wr HR0.out (by rw [List.length_append]; have := HL.out; have := HLs.out; omega) (by have := HLs.out; omega) (by have := HLs.out; omega) (by rw [List.length_append]; have := HL.out; have := HLs.out; omega) (fun e => by have := HLs.out; rw [e] at this; simp at this; omega) (fun e => by have := HLs.out; rw [e] at this; simp at this; omega) hl
                go_wp2_with fail
                refine (Calls.mono HC.out ?_)
                rintro e9 w1 ⟨rfl, hr9, hg9⟩
                have HR1 : Hid (RowE w1 g cap (X ++ A1 ++ B1 ++ (A2 ++ (B2 ++ Y)))) := (by simpa using hr9 : RowE _ _ _ _)
                have HG1 : Hid (w.grownBy w1 (some g)) := HG0.out.trans hg9
                clear hr9 hg9 HC
                have HC : Hid (Calls Tryz.prog 159 _ w1 _) := HIH.out X A1 B1 (A2 ++ (B2 ++ Y)) a s mid w1 (by have := HL.out; have := HLs.out; omega) ⟨by simpa using HR1.out, HL.out.1, by have := HLs.out; omega, by have := HLs.out; omega, by simp only [List.length_append]; have := HL.out; have := HLs.out; omega, HSs.out.1, HSs.out.2.2.1, HSs.out.2.2.2.2.1, (fun e => by have := HLs.out; rw [e] at this; simp at this; omega), (fun e => by have := HLs.out; rw [e] at this; simp at this; omega)⟩
                go_wp2_with fail
                refine (Calls.mono HC.out ?_)
                rintro e9 w2 ⟨rfl, ⟨M1, hr9, hp1, hs1⟩, hg9⟩
                have HR2 : Hid (RowE w2 g cap (X ++ M1 ++ (A2 ++ (B2 ++ Y)))) := (by simpa using hr9 : RowE _ _ _ _)
                have HG2 : Hid (w.grownBy w2 (some g)) := HG1.out.trans hg9
                have HM1 : Hid (M1.Perm (A1 ++ B1) ∧ Gm.S2 M1) := And.intro hp1 hs1
                clear hr9 hg9 HC hp1 hs1
                have HE9 : Hid ((∃ M, RowE w2 g cap (X ++ M ++ Y) ∧ M.Perm (A ++ B) ∧ Gm.S2 M) ∧ w.grownBy w2 (some g)) := (by
                  obtain e8 : B2 = [] := List.eq_nil_of_length_eq_zero (by have := HLs.out; omega)
                  have hh := HH.out M1 (A2 ++ B2) HM1.out.1 (List.Perm.refl _) HM1.out.2 (by rw [e8, List.append_nil]; exact HSs.out.2.1)
                  exact ⟨⟨M1 ++ (A2 ++ B2), by simpa using HR2.out, hh.2, hh.1⟩, HG2.out⟩ : _ ∧ _)
                go_wp2
                all_goals go_end0
                all_goals (first | exact ⟨rfl, HE9.out⟩ | exact ⟨rfl, by simpa using HE9.out⟩)
            · by_cases qB2 : e < b
              · have f1 : (s : Int) < (m : Int) := by omega
                have f2 : ¬ (m : Int) < (e : Int) := by omega
                have f3 : (a : Int) < (s : Int) := by omega
                have f4 : ¬ (s : Int) < (mid : Int) := by omega
                have f5 : (mid : Int) < (e : Int) := by omega
                have f6 : (e : Int) < (b : Int) := by omega
                have HR1 : Hid (RowE wr g cap (X ++ A1 ++ B1 ++ (A2 ++ (B2 ++ Y)))) := (by
                  obtain e8 : B1 = [] := List.eq_nil_of_length_eq_zero (by have := HLs.out; omega)
                  have h := HR0.out
                  rw [e8] at h ⊢
                  simpa using h : RowE _ _ _ _)
                have HG1 : Hid (w.grownBy wr (some g)) := HG0.out
                obtain ⟨M1, hM1⟩ : ∃ M1, M1 = A1 ++ B1 := ⟨_, rfl⟩
                have HR2 : Hid (RowE wr g cap (X ++ M1 ++ (A2 ++ (B2 ++ Y)))) := (by rw [hM1]; simpa using HR1.out : RowE _ _ _ _)
                have HG2 : Hid (w.grownBy wr (some g)) := HG1.out
                have HM1 : Hid (M1.Perm (A1 ++ B1) ∧ Gm.S2 M1) := (by
                  rw [hM1]
                  obtain e8 : B1 = [] := List.eq_nil_of_length_eq_zero (by have := HLs.out; omega)
                  exact ⟨List.Perm.refl _, by rw [e8, List.append_nil]; exact HSs.out.1⟩ : _ ∧ _)
                clear hM1
                have HC : Hid (Calls Tryz.prog 159 _ wr _) := HIH.out (X ++ M1) A2 B2 Y mid e b wr (by have := HL.out; have := HLs.out; omega) ⟨by simpa using HR2.out, by rw [List.length_append, HM1.out.1.length_eq, List.length_append]; have := HL.out; have := HLs.out; omega, by have := HLs.out; omega, by have := HLs.out; omega, by have := HL.out; omega, HSs.out.2.1, HSs.out.2.2.2.1, HSs.out.2.2.2.2.2, (fun e => by have := HLs.out; rw [e] at this; simp at this; omega), (fun e => by have := HLs.out; rw [e] at this; simp at this; omega)⟩
                go_wp2_with fail
                refine (Calls.mono HC.out ?_)
                rintro e9 w3 ⟨rfl, ⟨M2, hr9, hp1, hs1⟩, hg9⟩
                have HE9 : Hid ((∃ M, RowE w3 g cap (X ++ M ++ Y) ∧ M.Perm (A ++ B) ∧ Gm.S2 M) ∧ w.grownBy w3 (some g)) := (by
                  have hh := HH.out M1 M2 HM1.out.1 hp1 HM1.out.2 hs1
                  exact ⟨⟨M1 ++ M2, by simpa using hr9, hh.2, hh.1⟩, HG2.out.trans hg9⟩ : _ ∧ _)
                clear hr9 hg9 HC hp1 hs1
                go_wp2
                all_goals go_end0
                all_goals (first | exact ⟨rfl, HE9.out⟩ | exact ⟨rfl, by simpa using HE9.out⟩)
              · exfalso; have := HL.out; have := HLs.out; have := HM.out; omega
          · by_cases qB1 : s < mid
            · by_cases qB2 : e < b
              · have f1 : ¬ (s : Int) < (m : Int) := by omega
                have f2 : (m : Int) < (e : Int) := by omega
                have f3 : (a : Int) < (s : Int) := by omega
                have f4 : (s : Int) < (mid : Int) := by omega
                have f5 : ¬ (mid : Int) < (e : Int) := by omega
                have f6 : (e : Int) < (b : Int) := by omega
                have HR1 : Hid (RowE wr g cap (X ++ A1 ++ B1 ++ (A2 ++ (B2 ++ Y)))) := (by
                  obtain e8 : A2 = [] := List.eq_nil_of_length_eq_zero (by have := HLs.out; omega)
                  have h := HR0.out
                  rw [e8] at h ⊢
                  simpa using h : RowE _ _ _ _)
                have HG1 : Hid (w.grownBy wr (some g)) := HG0.out
                have HC : Hid (Calls Tryz.prog 159 _ wr _) := HIH.out X A1 B1 (A2 ++ (B2 ++ Y)) a s mid wr (by have := HL.out; have := HLs.out; omega) ⟨by simpa using HR1.out, HL.out.1, by have := HLs.out; omega, by have := HLs.out; omega, by simp only [List.length_append]; have := HL.out; have := HLs.out; omega, HSs.out.1, HSs.out.2.2.1, HSs.out.2.2.2.2.1, (fun e => by have := HLs.out; rw [e] at this; simp at this; omega), (fun e => by have := HLs.out; rw [e] at this; simp at this; omega)⟩
                go_wp2_with fail
                refine (Calls.mono HC.out ?_)
                rintro e9 w2 ⟨rfl, ⟨M1, hr9, hp1, hs1⟩, hg9⟩
                have HR2 : Hid (RowE w2 g cap (X ++ M1 ++ (A2 ++ (B2 ++ Y)))) := (by simpa using hr9 : RowE _ _ _ _)
                have HG2 : Hid (w.grownBy w2 (some g)) := HG1.out.trans hg9
                have HM1 : Hid (M1.Perm (A1 ++ B1) ∧ Gm.S2 M1) := And.intro hp1 hs1
                clear hr9 hg9 HC hp1 hs1
                have HE9 : Hid ((∃ M, RowE w2 g cap (X ++ M ++ Y) ∧ M.Perm (A ++ B) ∧ Gm.S2 M) ∧ w.grownBy w2 (some g)) := (by
                  obtain e8 : A2 = [] := List.eq_nil_of_length_eq_zero (by have := HLs.out; omega)
                  have hh := HH.out M1 (A2 ++ B2) HM1.out.1 (List.Perm.refl _) HM1.out.2 (by rw [e8]; exact HSs.out.2.2.2.1)
                  exact ⟨⟨M1 ++ (A2 ++ B2), by simpa using HR2.out, hh.2, hh.1⟩, HG2.out⟩ : _ ∧ _)
                go_wp2
                all_goals go_end0
                all_goals (first | exact ⟨rfl, HE9.out⟩ | exact ⟨rfl, by simpa using HE9.out⟩)
              · exfalso; have := HL.out; have := HLs.out; have := HM.out; omega
            · by_cases qB2 : e < b
              · have f1 : ¬ (s : Int) < (m : Int) := by omega
                have f2 : ¬ (m : Int) < (e : Int) := by omega
                have f3 : (a : Int) < (s : Int) := by omega
                have f4 : ¬ (s : Int) < (mid : Int) := by omega
                have f5 : ¬ (mid : Int) < (e : Int) := by omega
                have f6 : (e : Int) < (b : Int) := by omega
                have HR1 : Hid (RowE wr g cap (X ++ A1 ++ B1 ++ (A2 ++ (B2 ++ Y)))) := (by
                  obtain e8 : A2 = [] := List.eq_nil_of_length_eq_zero (by have := HLs.out; omega)
                  have h := HR0.out
                  rw [e8] at h ⊢
                  simpa using h : RowE _ _ _ _)
                have HG1 : Hid (w.grownBy wr (some g)) := HG0.out
                obtain ⟨M1, hM1⟩ : ∃ M1, M1 = A1 ++ B1 := ⟨_, rfl⟩
                have HR2 : Hid (RowE wr g cap (X ++ M1 ++ (A2 ++ (B2 ++ Y)))) := (by rw [hM1]; simpa using HR1.out : RowE _ _ _ _)
                have HG2 : Hid (w.grownBy wr (some g)) := HG1.out
                have HM1 : Hid (M1.Perm (A1 ++ B1) ∧ Gm.S2 M1) := (by
                  rw [hM1]
                  obtain e8 : B1 = [] := List.eq_nil_of_length_eq_zero (by have := HLs.out; omega)
                  exact ⟨List.Perm.refl _, by rw [e8, List.append_nil]; exact HSs.out.1⟩ : _ ∧ _)
                clear hM1
                have HE9 : Hid ((∃ M, RowE wr g cap (X ++ M ++ Y) ∧ M.Perm (A ++ B) ∧ Gm.S2 M) ∧ w.grownBy wr (some g)) := (by
                  obtain e8 : A2 = [] := List.eq_nil_of_length_eq_zero (by have := HLs.out; omega)
                  have hh := HH.out M1 (A2 ++ B2) HM1.out.1 (List.Perm.refl _) HM1.out.2 (by rw [e8]; exact HSs.out.2.2.2.1)
                  exact ⟨⟨M1 ++ (A2 ++ B2), by simpa using HR2.out, hh.2, hh.1⟩, HG2.out⟩ : _ ∧ _)
                go_wp2
                all_goals go_end0
                all_goals (first | exact ⟨rfl, HE9.out⟩ | exact ⟨rfl, by simpa using HE9.out⟩)
              · exfalso; have := HL.out; have := HLs.out; have := HM.out; omega
        · by_cases qA2 : s < m
          · by_cases qB1 : s < mid
            · by_cases qB2 : e < b
              · have f1 : (s : Int) < (m : Int) := by omega
                have f2 : (m : Int) < (e : Int) := by omega
                have f3 : ¬ (a : Int) < (s : Int) := by omega
                have f4 : (s : Int) < (mid : Int) := by omega
                have f5 : (mid : Int) < (e : Int) := by omega
                have f6 : (e : Int) < (b : Int) := by omega
                have HC : Hid (Calls Tryz.prog 171 _ wr _) := rot_any (X ++ A1) A2 B1 (B2 ++ Y) s m e N g cap (.func (.func 71) #[] #[]) wr HR0.out (by rw [List.length_append]; have := HL.out; have := HLs.out; omega) (by have := HLs.out; omega) (by have := HLs.out; omega) (by rw [List.length_append]; have := HL.out; have := HLs.out; omega) (fun e => by have := HLs.out; rw [e] at this; simp at this; omega) (fun e => by have := HLs.out; rw [e] at this; simp at this; omega) hl
                go_wp2_with fail
                refine (Calls.mono HC.out ?_)
                rintro e9 w1 ⟨rfl, hr9, hg9⟩
                have HR1 : Hid (RowE w1 g cap (X ++ A1 ++ B1 ++ (A2 ++ (B2 ++ Y)))) := (by simpa using hr9 : RowE _ _ _ _)
                have HG1 : Hid (w.grownBy w1 (some g)) := HG0.out.trans hg9
                clear hr9 hg9 HC
                obtain ⟨M1, hM1⟩ : ∃ M1, M1 = A1 ++ B1 := ⟨_, rfl⟩
                have HR2 : Hid (RowE w1 g cap (X ++ M1 ++ (A2 ++ (B2 ++ Y)))) := (by rw [hM1]; simpa using HR1.out : RowE _ _ _ _)
                have HG2 : Hid (w.grownBy w1 (some g)) := HG1.out
                have HM1 : Hid (M1.Perm (A1 ++ B1) ∧ Gm.S2 M1) := (by
                  rw [hM1]
                  obtain e8 : A1 = [] := List.eq_nil_of_length_eq_zero (by have := HLs.out; omega)
                  exact ⟨List.Perm.refl _, by rw [e8]; exact HSs.out.2.2.1⟩ : _ ∧ _)
                clear hM1
                have HC : Hid (Calls Tryz.prog 159 _ w1 _) := HIH.out (X ++ M1) A2 B2 Y mid e b w1 (by have := HL.out; have := HLs.out; omega) ⟨by simpa using HR2.out, by rw [List.length_append, HM1.out.1.length_eq, List.length_append]; have := HL.out; have := HLs.out; omega, by have := HLs.out; omega, by have := HLs.out; omega, by have := HL.out; omega, HSs.out.2.1, HSs.out.2.2.2.1, HSs.out.2.2.2.2.2, (fun e => by have := HLs.out; rw [e] at this; simp at this; omega), (fun e => by have := HLs.out; rw [e] at this; simp at this; omega)⟩
                go_wp2_with fail
                refine (Calls.mono HC.out ?_)
                rintro e9 w3 ⟨rfl, ⟨M2, hr9, hp1, hs1⟩, hg9⟩
                have HE9 : Hid ((∃ M, RowE w3 g cap (X ++ M ++ Y) ∧ M.Perm (A ++ B) ∧ Gm.S2 M) ∧ w.grownBy w3 (some g)) := (by
                  have hh := HH.out M1 M2 HM1.out.1 hp1 HM1.out.2 hs1
                  exact ⟨⟨M1 ++ M2, by simpa using hr9, hh.2, hh.1⟩, HG2.out.trans hg9⟩ : _ ∧ _)
                clear hr9 hg9 HC hp1 hs1
                go_wp2
                all_goals go_end0
                all_goals (first | exact ⟨rfl, HE9.out⟩ | exact ⟨rfl, by simpa using HE9.out⟩)
              · have f1 : (s : Int) < (m : Int) := by omega
                have f2 : (m : Int) < (e : Int) := by omega
                have f3 : ¬ (a : Int) < (s : Int) := by omega
                have f4 : (s : Int) < (mid : Int) := by omega
                have f5 : (mid : Int) < (e : Int) := by omega
                have f6 : ¬ (e : Int) < (b : Int) := by omega
                have HC : Hid (Calls Tryz.prog 171 _ wr _) := rot_any (X ++ A1) A2 B1 (B2 ++ Y) s m e N g cap (.func (.func 71) #[] #[]) wr HR0.out (by rw [List.length_append]; have := HL.out; have := HLs.out; omega) (by have := HLs.out; omega) (by have := HLs.out; omega) (by rw [List.length_append]; have := HL.out; have := HLs.out; omega) (fun e => by have := HLs.out; rw [e] at this; simp at this; omega) (fun e => by have := HLs.out; rw [e] at this; simp at this; omega) hl
                go_wp2_with fail
                refine (Calls.mono HC.out ?_)
                rintro e9 w1 ⟨rfl, hr9, hg9⟩
                have HR1 : Hid (RowE w1 g cap (X ++ A1 ++ B1 ++ (A2 ++ (B2 ++ Y)))) := (by simpa using hr9 : RowE _ _ _ _)
                have HG1 : Hid (w.grownBy w1 (some g)) := HG0.out.trans hg9
                clear hr9 hg9 HC
                obtain ⟨M1, hM1⟩ : ∃ M1, M1 = A1 ++ B1 := ⟨_, rfl⟩
                have HR2 : Hid (RowE w1 g cap (X ++ M1 ++ (A2 ++ (B2 ++ Y)))) := (by rw [hM1]; simpa using HR1.out : RowE _ _ _ _)
                have HG2 : Hid (w.grownBy w1 (some g)) := HG1.out
                have HM1 : Hid (M1.Perm (A1 ++ B1) ∧ Gm.S2 M1) := (by
                  rw [hM1]
                  obtain e8 : A1 = [] := List.eq_nil_of_length_eq_zero (by have := HLs.out; omega)
                  exact ⟨List.Perm.refl _, by rw [e8]; exact HSs.out.2.2.1⟩ : _ ∧ _)
                clear hM1
                have HE9 : Hid ((∃ M, RowE w1 g cap (X ++ M ++ Y) ∧ M.Perm (A ++ B) ∧ Gm.S2 M) ∧ w.grownBy w1 (some g)) := (by
                  obtain e8 : B2 = [] := List.eq_nil_of_length_eq_zero (by have := HLs.out; omega)
                  have hh := HH.out M1 (A2 ++ B2) HM1.out.1 (List.Perm.refl _) HM1.out.2 (by rw [e8, List.append_nil]; exact HSs.out.2.1)
                  exact ⟨⟨M1 ++ (A2 ++ B2), by simpa using HR2.out, hh.2, hh.1⟩, HG2.out⟩ : _ ∧ _)
                go_wp2
                all_goals go_end0
                all_goals (first | exact ⟨rfl, HE9.out⟩ | exact ⟨rfl, by simpa using HE9.out⟩)
            · by_cases qB2 : e < b
              · exfalso; have := HL.out; have := HLs.out; have := HM.out; omega
              · exfalso; have := HL.out; have := HLs.out; have := HM.out; omega
          · by_cases qB1 : s < mid
            · by_cases qB2 : e < b
              · exfalso; have := HL.out; have := HLs.out; have := HM.out; omega
              · exfalso; have := HL.out; have := HLs.out; have := HM.out; omega
            · by_cases qB2 : e < b
              · exfalso; have := HL.out; have := HLs.out; have := HM.out; omega
              · exfalso; have := HL.out; have := HLs.out; have := HM.out; omega
end Go.Proofs.YtphjbbbnbmafnaaGreat.G

namespace Go.Proofs.YtphjbbbnbmafnaaGreat.G
open Go.RowKit

theorem symm_all : ∀ (n : Nat) (X A B Y : List E3) (a m b N g cap : Nat) (w : World), A.length + B.length ≤ n → N ≤ 1000000 → SymP X A B Y a m b N g cap w → SymC X A B Y a m b N g cap w
  | 0, X, A, B, Y, a, m, b, N, g, cap, w, hn, _, h => by
    exact absurd (List.eq_nil_of_length_eq_zero (by omega : A.length = 0)) h.2.2.2.2.2.2.2.2.1
  | n + 1, X, A, B, Y, a, m, b, N, g, cap, w, hn, hl, h => by
    have hA0 := List.length_pos_iff.2 h.2.2.2.2.2.2.2.2.1
    have hB0 := List.length_pos_iff.2 h.2.2.2.2.2.2.2.2.2
    by_cases h1 : A.length = 1
    · obtain ⟨x, rfl⟩ := List.length_eq_one_iff.1 h1
      obtain ⟨hR, ha, hm, hb, hN, hSA, hSB, hbef, _, _⟩ := h
      exact symm_one X B Y x a m b N g cap w hR ha (by simpa using hm) hb hN hl hSB (fun y hy => hbef x (by simp) y hy)
    · by_cases h2 : B.length = 1
      · obtain ⟨y, rfl⟩ := List.length_eq_one_iff.1 h2
        obtain ⟨hR, ha, hm, hb, hN, hSA, hSB, hbef, _, _⟩ := h
        exact symm_two X A Y y a m b N g cap w hR ha hm (by omega) (by simpa using hb) hN hl hSA (fun z hz => hbef z hz y (by simp))
      · exact symm_gen X A B Y a m b N g cap w h (by omega) (by omega) hl (fun X' A' B' Y' a' m' b' w' hlt hp => symm_all n X' A' B' Y' a' m' b' N g cap w' (by omega) hl hp)
theorem take_two (L : List E3) (a k : Nat) : L.take (a + k) = L.take a ++ (L.drop a).take k := List.take_add
theorem drop_two (L : List E3) (a k : Nat) : (L.drop a).drop k = L.drop (a + k) := by rw [List.drop_drop]
theorem strict_drop {L : List E3} (h : Gm.Strict L) (a : Nat) : Gm.Strict (L.drop a) := List.Pairwise.sublist (List.drop_sublist _ _) h
theorem stab_one {L D1 D' : List E3} {k a b t : Nat} (hB : Gm.Blocks k (L.take a) D1) (ht : a = k * t) (hb : b = a + k) (hbN : a ≤ L.length) (hs : Gm.S2 D') (hp : D'.Perm ((L.drop a).take k)) : Gm.Blocks k (L.take b) (D1 ++ D') := by
  have hl : (L.take a).length = k * t := by rw [List.length_take, ← ht]; exact Nat.min_eq_left hbN
  have hl2 : ((L.drop a).take k).length ≤ k := by rw [List.length_take]; exact Nat.min_le_left _ _
  have h := Gm.blocks_app hB t hl hs hp hl2
  rw [hb, take_two]
  exact h
/-- two blocks of the rest, merged -/
theorem stab_two {L D1 D2 M : List E3} {k a b : Nat} (hB : Gm.Blocks (2 * k) (L.take a) D1) (hB2 : Gm.Blocks k (L.drop a) D2) (ht : ∃ j, a = 2 * k * j) (hb : b = a + 2 * k) (haN : a ≤ L.length) (hs : Gm.S2 M) (hp : M.Perm (D2.take k ++ (D2.drop k).take k)) (hL : Gm.Strict L) : Gm.Blocks (2 * k) (L.take b) (D1 ++ M) ∧ Gm.Blocks k (L.drop b) (D2.drop (2 * k)) := by
  obtain ⟨j, hj⟩ := ht
  have h2 := Gm.blocks_two hB2 (strict_drop hL a)
  constructor
  · refine stab_one hB hj hb haN hs (hp.trans ?_)
    rw [Nat.two_mul, take_two]
    exact h2.2.2.1.append h2.2.2.2.1
  · have h3 := Gm.blocks_drop hB2 2
    rw [drop_two, Nat.mul_comm k 2] at h3
    rw [hb]
    exact h3
theorem stab_last {L D1 M : List E3} {k a : Nat} (hB : Gm.Blocks (2 * k) (L.take a) D1) (ht : ∃ j, a = 2 * k * j) (haN : a ≤ L.length) (hr : L.length ≤ a + 2 * k) (hs : Gm.S2 M) (hp : M.Perm (L.drop a)) : Gm.Blocks (2 * k) L (D1 ++ M) := by
  obtain ⟨j, hj⟩ := ht
  have h := stab_one hB hj rfl haN hs (hp.trans (by rw [List.take_of_length_le (by rw [List.length_drop]; omega)]))
  rw [List.take_of_length_le (by omega)] at h
  exact h
set_option maxHeartbeats 16000000 in
set_option maxRecDepth 100000 in
theorem stable_any (L : List E3) (N g cap : Nat) (w : World) (h : RowE w g cap L) (hL : Gm.Strict L) (hN : L.length = N) (hl : N ≤ 1000000) :
    Calls Tryz.prog 133 #[.slice (some ⟨g, 0, none⟩) N cap, .int .i64 (N : Int), .func (.func 71) #[] #[]] w fun e w' => e = .returned (.tuple #[]) ∧ (∃ R, RowE w' g cap R ∧ R.Perm L ∧ Gm.S2 R) ∧ w.grownBy w' (some g) := by
  have H0 : Hid _ := h
  have HS : Hid _ := hL
  have HN : Hid _ := hN
  clear h hL hN
  go_enter Tryz.func133, Tryz.ntmps133
  go_wp2
  go_loopw [7, 8] (fun sa sb wr => ∃ a b : Nat, sa = .int .i64 (a : Int) ∧ sb = .int .i64 (b : Int) ∧ a ≤ N ∧ b ≤ 2000000 ∧ Hid ((∃ t, a = 20 * t) ∧ b = a + 20 ∧ (∃ D1, RowE wr g cap (D1 ++ L.drop a) ∧ Gm.Blocks 20 (L.take a) D1) ∧ w.grownBy wr (some g))) (fun sa _ _ => N - (intOf sa).toNat)
  case atStart => exact ⟨0, 20, rfl, rfl, Nat.zero_le _, by decide, ⟨0, rfl⟩, rfl, ⟨[], H0.out, Gm.blocks_nil 20⟩, ⟨rfl, rfl, rfl, Nat.le_refl _, fun _ _ _ => rfl⟩⟩
  case round =>
    obtain ⟨a, b, rfl, rfl, haN, hb2, HI⟩ := hrel
    by_cases hlt : b ≤ N
    · obtain ⟨⟨t, ht⟩, hb, ⟨D1, hR, hB⟩, hG⟩ := HI.out
      have hD1 : D1.length = a := by rw [hB.1, List.length_take, HN.out]; omega
      have HC : Hid (Calls Tryz.prog 151 _ wr _) := ins_any D1 ((L.drop a).take 20) (L.drop b) a b N g cap wr (by
        rw [List.append_assoc, hb, ← drop_two, List.take_append_drop]; exact hR) (List.Pairwise.sublist (List.take_sublist _ _) (strict_drop HS.out a)) hD1 (by rw [List.length_take, List.length_drop, HN.out]; omega) (by rw [List.length_drop, HN.out]; omega) hl
      have HB : Hid _ := And.intro hB (And.intro ht (And.intro hb hG))
      clear hR hB hG HI hD1 ht hb
      go_wp2_with fail
      refine (Calls.mono HC.out ?_)
      rintro e w2 ⟨rfl, ⟨D', hr, hp, hs⟩, hg⟩
      have HI2 : Hid ((∃ t, b = 20 * t) ∧ b + 20 = b + 20 ∧ (∃ D1, RowE w2 g cap (D1 ++ L.drop b) ∧ Gm.Blocks 20 (L.take b) D1) ∧ w.grownBy w2 (some g)) := (by
        obtain ⟨hB, ht, hb, hG⟩ := HB.out
        have hst := stab_one hB ht hb (by rw [HN.out]; exact haN) hs hp
        have ht2 : b = 20 * (t + 1) := by rw [hb, ht, Nat.mul_add]
        exact ⟨⟨t + 1, ht2⟩, rfl, ⟨D1 ++ D', hr, hst⟩, hG.trans hg⟩ : _ ∧ _)
      have hba : a < b := by have := HB.out; omega
      clear hr hp hs hg HB HC
      go_wp2
      go_roundw
      case rel => exact ⟨b, b + 20, rfl, by go_num, hlt, by omega, HI2.out.1, rfl, HI2.out.2.2⟩
      case measure => simp [intOf]; omega
    · have HC : Hid (∃ D1, Gm.Blocks 20 (L.take a) D1 ∧ Calls Tryz.prog 151 #[.slice (some ⟨g, 0, none⟩) N cap, .int .i64 (a : Int), .int .i64 (N : Int), .func (.func 71) #[] #[]] wr (fun e w' => e = .returned (.tuple #[]) ∧ (∃ D', RowE w' g cap (D1 ++ D' ++ []) ∧ D'.Perm (L.drop a) ∧ Gm.S2 D') ∧ wr.grownBy w' (some g))) := (by
        obtain ⟨⟨t, ht⟩, hb, ⟨D1, hR, hB⟩, hG⟩ := HI.out
        have hD1 : D1.length = a := by rw [hB.1, List.length_take, HN.out]; omega
        exact ⟨D1, hB, ins_any D1 (L.drop a) [] a N N g cap wr (by rw [List.append_nil]; exact hR) (strict_drop HS.out a) hD1 (by rw [List.length_drop, HN.out]; omega) (by simp) hl⟩ : ∃ D1, _)
      have hlI : ¬ (b : Int) ≤ (N : Int) := by omega
      obtain ⟨D1, hB1, hC⟩ := HC.out
      have HB1 : Hid _ := hB1
      have HC1 : Hid (Calls Tryz.prog 151 _ wr _) := hC
      clear HC hB1 hC
      go_wp2_with fail
      refine (Calls.mono HC1.out ?_)
      rintro e w2 ⟨rfl, ⟨D', hr, hp, hs⟩, hg⟩
      have HK0 : Hid ((∃ D, RowE w2 g cap D ∧ Gm.Blocks 20 L D) ∧ w.grownBy w2 (some g)) := (by
        obtain ⟨⟨t, ht⟩, hb, _, hG⟩ := HI.out
        refine ⟨⟨D1 ++ D', by simpa using hr, ?_⟩, hG.trans hg⟩
        have h2 := Gm.blocks_app HB1.out t (by rw [List.length_take, HN.out]; omega) hs hp (by rw [List.length_drop, HN.out]; omega)
        rw [List.take_append_drop] at h2
        exact h2 : _ ∧ _)
      clear hr hp hs hg HB1 HC1 HI
      go_wp2
      go_loopw [6] (fun sk wr => ∃ k : Nat, sk = .int .i64 (k : Int) ∧ 20 ≤ k ∧ k ≤ 2000000 ∧ Hid ((∃ D, RowE wr g cap D ∧ Gm.Blocks k L D) ∧ w.grownBy wr (some g))) (fun sk _ => 2000000 - (intOf sk).toNat)
      case atStart => exact ⟨20, rfl, Nat.le_refl _, by decide, HK0.out⟩
      case round =>
        obtain ⟨k, rfl, hk1, hk2, HK⟩ := hrel
        by_cases hkN : k < N
        · obtain ⟨⟨D, hR, hB⟩, hG⟩ := HK.out
          obtain ⟨k2, hk22⟩ : ∃ k2, k2 = 2 * k := ⟨_, rfl⟩
          have hk2I : 2 * (k : Int) = (k2 : Int) := by omega
          have HA0 : Hid ((∃ j, 0 = 2 * k * j) ∧ k2 = 0 + 2 * k ∧ (∃ D1 D2, RowE wr g cap (D1 ++ D2) ∧ Gm.Blocks (2 * k) (L.take 0) D1 ∧ Gm.Blocks k (L.drop 0) D2) ∧ w.grownBy wr (some g)) := (⟨⟨0, rfl⟩, by omega, ⟨[], D, hR, Gm.blocks_nil _, hB⟩, hG⟩ : _ ∧ _)
          have hk2b : k2 ≤ 2000000 := by omega
          clear hR hB hG HK
          have hk2e : 40 ≤ k2 := by omega
          have HKK : Hid _ := hk22
          clear hk22
          go_wp2
          go_loopw [7, 8] (fun sa sb wr => ∃ a b : Nat, sa = .int .i64 (a : Int) ∧ sb = .int .i64 (b : Int) ∧ a ≤ N ∧ b ≤ 4000000 ∧ Hid ((∃ j, a = 2 * k * j) ∧ b = a + 2 * k ∧ (∃ D1 D2, RowE wr g cap (D1 ++ D2) ∧ Gm.Blocks (2 * k) (L.take a) D1 ∧ Gm.Blocks k (L.drop a) D2) ∧ w.grownBy wr (some g))) (fun sa _ _ => N - (intOf sa).toNat)
          case atStart => exact ⟨0, k2, rfl, rfl, Nat.zero_le _, by omega, HA0.out⟩
          case round =>
            obtain ⟨a, b, rfl, rfl, haN, hb4, HI⟩ := hrel
            obtain ⟨m, hm⟩ : ∃ m, m = a + k := ⟨_, rfl⟩
            have hmI : (a : Int) + (k : Int) = (m : Int) := by omega
            have HMM : Hid _ := hm
            clear hm
            by_cases hbN : b ≤ N
            · have HC : Hid (∃ D1 D2, Gm.Blocks (2 * k) (L.take a) D1 ∧ Gm.Blocks k (L.drop a) D2 ∧ SymC D1 (D2.take k) ((D2.drop k).take k) (D2.drop (2 * k)) a m b N g cap wr) := (by
                obtain ⟨ht, hb, ⟨D1, D2, hR, hB, hB2⟩, hG⟩ := HI.out
                have h2 := Gm.blocks_two hB2 (strict_drop HS.out a)
                have hmm := HMM.out
                have l1 : D1.length = a := by rw [hB.1, List.length_take, HN.out]; omega
                have l2 : D2.length = N - a := by rw [hB2.1, List.length_drop, HN.out]
                refine ⟨D1, D2, hB, hB2, symm_all _ _ _ _ _ _ _ _ _ _ _ _ (Nat.le_refl _) hl ⟨?_, l1, ?_, ?_, ?_, h2.1, h2.2.1, h2.2.2.2.2, ?_, ?_⟩⟩
                · have e1 := List.take_append_drop k D2
                  have e2 := List.take_append_drop k (D2.drop k)
                  rw [drop_two] at e2
                  rw [show 2 * k = k + k by omega, List.append_assoc, List.append_assoc, e2, e1]
                  exact hR
                · rw [List.length_take, l2]; omega
                · rw [List.length_take, List.length_drop, l2]; omega
                · rw [List.length_drop, l2]; omega
                · intro e; have := congrArg List.length e; rw [List.length_take, l2, List.length_nil] at this; omega
                · intro e; have := congrArg List.length e; rw [List.length_take, List.length_drop, l2, List.length_nil] at this; omega : ∃ D1 D2, _)
              obtain ⟨D1, D2, hB, hB2, hC⟩ := HC.out
              have HB : Hid _ := And.intro hB hB2
              have HC1 : Hid (Calls Tryz.prog 159 _ wr _) := hC
              clear HC hB hB2 hC
              go_wp2_with fail
              refine (Calls.mono HC1.out ?_)
              rintro e w2 ⟨rfl, ⟨M, hr, hp, hs⟩, hg⟩
              have HI2 : Hid ((∃ j, b = 2 * k * j) ∧ (∃ D1 D2, RowE w2 g cap (D1 ++ D2) ∧ Gm.Blocks (2 * k) (L.take b) D1 ∧ Gm.Blocks k (L.drop b) D2) ∧ w.grownBy w2 (some g) ∧ b = a + 2 * k) := (by
                obtain ⟨⟨j, hj⟩, hb, _, hG⟩ := HI.out
                have hst := stab_two HB.out.1 HB.out.2 ⟨j, hj⟩ hb (by rw [HN.out]; exact haN) hs hp HS.out
                exact ⟨⟨j + 1, by rw [hb, hj, Nat.mul_add, Nat.mul_one]⟩, ⟨D1 ++ M, D2.drop (2 * k), hr, hst.1, hst.2⟩, hG.trans hg, hb⟩ : _ ∧ _)
              have hba : a < b := by have := HI2.out.2.2.2; omega
              have hbk : b + 2 * k ≤ 4000000 := by omega
              have hk2n : k2 = 2 * k := HKK.out
              obtain ⟨b2, hb2e⟩ : ∃ b2, b2 = b + k2 := ⟨_, rfl⟩
              have hbI : (b : Int) + (k2 : Int) = (b2 : Int) := by omega
              have hb24 : b2 ≤ 4000000 := by omega
              have HK2 : Hid (b2 = b + 2 * k) := (by rw [hb2e, hk2n] : _ = _)
              clear hr hp hs hg HB HC1 HI hk2n hb2e
              go_wp2
              go_roundw
              case rel => exact ⟨b, b2, rfl, rfl, hbN, hb24, HI2.out.1, HK2.out, HI2.out.2.1, HI2.out.2.2.1⟩
              case measure => simp [intOf]; omega
            · have hbI : ¬ (b : Int) ≤ (N : Int) := by omega
              by_cases hmN : m < N
              · have HC : Hid (∃ D1 D2, Gm.Blocks (2 * k) (L.take a) D1 ∧ Gm.Blocks k (L.drop a) D2 ∧ (D2.drop k).take k = D2.drop k ∧ SymC D1 (D2.take k) (D2.drop k) [] a m N N g cap wr) := (by
                  obtain ⟨ht, hb, ⟨D1, D2, hR, hB, hB2⟩, hG⟩ := HI.out
                  have h2 := Gm.blocks_two hB2 (strict_drop HS.out a)
                  have hmm := HMM.out
                  have l1 : D1.length = a := by rw [hB.1, List.length_take, HN.out]; omega
                  have l2 : D2.length = N - a := by rw [hB2.1, List.length_drop, HN.out]
                  have e0 : (D2.drop k).take k = D2.drop k := List.take_of_length_le (by rw [List.length_drop, l2]; omega)
                  rw [e0] at h2
                  refine ⟨D1, D2, hB, hB2, e0, symm_all _ _ _ _ _ _ _ _ _ _ _ _ (Nat.le_refl _) hl ⟨?_, l1, ?_, ?_, ?_, h2.1, h2.2.1, h2.2.2.2.2, ?_, ?_⟩⟩
                  · rw [List.append_nil, List.append_assoc, List.take_append_drop]; exact hR
                  · rw [List.length_take, l2]; omega
                  · rw [List.length_drop, l2]; omega
                  · simp
                  · intro e; have := congrArg List.length e; rw [List.length_take, l2, List.length_nil] at this; omega
                  · intro e; have := congrArg List.length e; rw [List.length_drop, l2, List.length_nil] at this; omega : ∃ D1 D2, _)
                obtain ⟨D1, D2, hB, hB2, he0, hC⟩ := HC.out
                have HB : Hid _ := And.intro hB (And.intro hB2 he0)
                have HC1 : Hid (Calls Tryz.prog 159 _ wr _) := hC
                clear HC hB hB2 hC he0
                go_wp2_with fail
                refine (Calls.mono HC1.out ?_)
                rintro e w2 ⟨rfl, ⟨M, hr, hp, hs⟩, hg⟩
                have HI2 : Hid ((∃ D, RowE w2 g cap D ∧ Gm.Blocks (2 * k) L D) ∧ w.grownBy w2 (some g)) := (by
                  obtain ⟨ht, hb, _, hG⟩ := HI.out
                  have h2 := Gm.blocks_two HB.out.2.1 (strict_drop HS.out a)
                  rw [HB.out.2.2] at h2
                  have e5 : (L.drop a).take k ++ ((L.drop a).drop k).take k = L.drop a := by
                    rw [List.take_of_length_le (l := (L.drop a).drop k) (by rw [List.length_drop, List.length_drop, HN.out]; omega), List.take_append_drop]
                  have hpp : M.Perm (L.drop a) := hp.trans (by rw [← e5]; exact h2.2.2.1.append h2.2.2.2.1)
                  exact ⟨⟨D1 ++ M, by simpa using hr, stab_last HB.out.1 ht (by rw [HN.out]; exact haN) (by rw [HN.out]; omega) hs hpp⟩, hG.trans hg⟩ : _ ∧ _)
                have hkk : (k : Int) * 2 = ((2 * k : Nat) : Int) := by omega
                clear hr hp hs hg HB HC1 HI
                go_wp2
                go_roundw
                case rel => exact ⟨2 * k, by go_num, by omega, by omega, HI2.out⟩
                case measure => simp [intOf]; omega
              · have hmNI : ¬ (m : Int) < (N : Int) := by omega
                have HI2 : Hid ((∃ D, RowE wr g cap D ∧ Gm.Blocks (2 * k) L D) ∧ w.grownBy wr (some g)) := (by
                  obtain ⟨ht, hb, ⟨D1, D2, hR, hB, hB2⟩, hG⟩ := HI.out
                  have hmm := HMM.out
                  have h1 := Gm.blocks_one hB2 (by rw [List.length_drop, HN.out]; omega)
                  exact ⟨⟨D1 ++ D2, hR, stab_last hB ht (by rw [HN.out]; exact haN) (by rw [HN.out]; omega) h1.1 h1.2⟩, hG⟩ : _ ∧ _)
                have hkk : (k : Int) * 2 = ((2 * k : Nat) : Int) := by omega
                clear HI
                go_wp2
                go_roundw
                case rel => exact ⟨2 * k, by go_num, by omega, by omega, HI2.out⟩
                case measure => simp [intOf]; omega
        · have HE : Hid ((∃ R, RowE wr g cap R ∧ R.Perm L ∧ Gm.S2 R) ∧ w.grownBy wr (some g)) := (by
            obtain ⟨⟨D, hR, hB⟩, hG⟩ := HK.out
            have h1 := Gm.blocks_one hB (by rw [HN.out]; omega)
            exact ⟨⟨D, hR, h1.2, h1.1⟩, hG⟩ : _ ∧ _)
          have hkI : ¬ (k : Int) < (N : Int) := by omega
          clear HK
          go_wp2
          go_end0
          exact ⟨rfl, HE.out⟩
end Go.Proofs.YtphjbbbnbmafnaaGreat.G

namespace Go.Proofs.YtphjbbbnbmafnaaGreat.G
open Go.RowKit

set_option maxHeartbeats 1000000 in
set_option maxRecDepth 100000 in
theorem ins_nil (w : World) (cv : Value) : Calls Tryz.prog 151 #[.slice none 0 0, .int .i64 0, .int .i64 0, cv] w fun e w' => e = .returned (.tuple #[]) ∧ w' = w := by
  go_enter Tryz.func151, Tryz.ntmps151
  go_wp2
  go_loopw [8] (fun si wr => si = .int .i64 1 ∧ wr = w) (fun _ _ => 0)
  case atStart => exact ⟨rfl, rfl⟩
  case round =>
    obtain ⟨rfl, rfl⟩ := hrel
    go_wp2
    go_end0
    exact ⟨rfl, rfl⟩
set_option maxHeartbeats 1000000 in
set_option maxRecDepth 100000 in
theorem stable_nil (w : World) (cv : Value) : Calls Tryz.prog 133 #[.slice none 0 0, .int .i64 0, cv] w fun e w' => e = .returned (.tuple #[]) ∧ w' = w := by
  have HC : Hid (Calls Tryz.prog 151 _ w _) := ins_nil w cv
  go_enter Tryz.func133, Tryz.ntmps133
  go_wp2
  go_loopw [7, 8] (fun sa sb wr => sa = .int .i64 0 ∧ sb = .int .i64 20 ∧ wr = w) (fun _ _ _ => 0)
  case atStart => exact ⟨rfl, rfl, rfl⟩
  case round =>
    obtain ⟨rfl, rfl, hw⟩ := hrel
    rw [hw]
    clear hw wr
    go_wp2_with fail
    refine (Calls.mono HC.out ?_)
    rintro e w2 ⟨rfl, hw⟩
    rw [hw]
    clear hw w2
    go_wp2
    go_loopw [6] (fun sk wr => sk = .int .i64 20 ∧ wr = w) (fun _ _ => 0)
    case atStart => exact ⟨rfl, rfl⟩
    case round =>
      obtain ⟨rfl, hw⟩ := hrel
      rw [hw]
      clear hw wr
      go_wp2
      go_end0
      exact ⟨rfl, rfl⟩
set_option maxHeartbeats 1000000 in
set_option maxRecDepth 100000 in
theorem sorts_own (l : List E3) (base : Nat) (v : Value) (W : World) (hrow : W.ownsRow base 26 3 v l.length (flat l)) (hl : l.length ≤ 1000000) (hL : Gm.Strict l) :
    Calls Tryz.prog 102 #[v, .func (.func 71) #[] #[]] W fun e w' => e = .returned (.tuple #[]) ∧ (∃ R, R.Perm l ∧ Gm.S2 R ∧ w'.ownsRow base 26 3 v R.length (flat R)) ∧ W.grownBy w' v.ownBlock := by
  rcases hrow.2 with ⟨rfl, h0⟩ | ⟨g, cap, cur, rfl, hbase, hgb, r1, r2, r3, r4⟩
  · obtain rfl : l = [] := List.eq_nil_of_length_eq_zero h0
    have HC : Hid (Calls Tryz.prog 133 _ W _) := stable_nil W (.func (.func 71) #[] #[])
    clear hrow
    go_enter Tryz.func102, Tryz.ntmps102
    go_wp2_with fail
    refine (Calls.mono HC.out ?_)
    rintro e w2 ⟨rfl, hw⟩
    rw [hw]
    clear hw w2
    go_wp2
    go_end0
    exact ⟨rfl, ⟨[], List.Perm.refl _, List.Pairwise.nil, World.ownsRow_nil _ _ _ _⟩, ⟨rfl, rfl, rfl, Nat.le_refl _, fun _ _ _ => rfl⟩⟩
  · have HC : Hid (Calls Tryz.prog 133 _ W _) := stable_any l l.length g cap W ⟨cur, hgb, r3, r4⟩ hL rfl hl
    clear hrow hgb r3 r4
    go_enter Tryz.func102, Tryz.ntmps102
    go_wp2_with fail
    refine (Calls.mono HC.out ?_)
    rintro e w2 ⟨rfl, ⟨R, ⟨cur2, k1, k2, k3⟩, hp, hs⟩, hg⟩
    have HE : Hid ((∃ R : List E3, R.Perm l ∧ Gm.S2 R ∧ w2.ownsRow base 26 3 (.slice (some ⟨g, 0, none⟩) l.length cap) R.length (flat R)) ∧ W.grownBy w2 (some g)) := (by
      have e := hp.length_eq
      refine ⟨⟨R, hp, hs, ⟨by rw [flat_len], .inr ⟨g, cap, cur2, by rw [e], hbase, k1, by rw [e]; exact r1, r2, k2, k3⟩⟩⟩, hg⟩ : _ ∧ _)
    clear k1 k2 k3 hp hs hg
    go_wp2
    go_end0
    exact ⟨rfl, HE.out.1, HE.out.2⟩
end Go.Proofs.YtphjbbbnbmafnaaGreat.G
