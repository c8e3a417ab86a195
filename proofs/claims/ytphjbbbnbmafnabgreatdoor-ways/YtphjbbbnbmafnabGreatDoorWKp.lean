/-
  The laws' own small functions: letter, sameInts, within, expression: what they answer; nothing that was there is written.
-/
import Derived.Test.YtphjbbbnbmafnabGreatDoorKMade
import Derived.Test.YtphjbbbnbmafnabGreatDoorXRh
import Derived.Test.YtphjbbbnbmafnabGreatDoorRxY
import Derived.Test.YtphjbbbnbmafnabGreatDoorNums
namespace Go.Proofs.YtphjbbbnbmafnabGreatDoor.G
open Go.RowKit Go.Shelf

/-- a letter's byte -/
def lby (k : Nat) : UInt8 := UInt8.ofNat (97 + k)
theorem lby_nat {k : Nat} (h : k < 4) : (lby k).toNat = 97 + k := by
  unfold lby
  rw [UInt8.toNat_ofNat', Nat.mod_eq_of_lt (by omega)]
set_option maxRecDepth 100000 in
set_option maxHeartbeats 4000000 in
theorem letter_any (c : Int) (hc : -9223372036854775808 ≤ c ∧ c ≤ 9223372036854775807) (w : World) :
    Calls Tryz.prog 14 #[.int .i64 c] w fun e w' => e = .returned (.string ⟨#[lby (pk c 4)]⟩) ∧ Below w.heap.size w w' := by
  have HP : Hid (∀ W, Calls Tryz.prog 8 #[.int .i64 c, .int .i64 4] W _) := fun W => pick_fn c 4 hc (by decide) (by decide) 4 rfl W
  have hp := pk_lt c 4 (by decide)
  obtain ⟨k, hk⟩ : ∃ k, k = pk c 4 := ⟨_, rfl⟩
  rw [← hk] at HP hp
  rw [← hk]
  clear hk
  have hb : (97 + (k : Int)) = ((lby k).toNat : Int) := by
    rw [lby_nat hp]; omega
  have hcv := fun W : World => conv_one W (lby k) (97 + (k : Int)) hb
  clear hb
  have hkI : (k : Int) < 4 := by omega
  go_enter Tryz.func14, Tryz.ntmps14
  go_wp2_with fail
  refine (Calls.mono (HP.out w) ?_)
  rintro e w1 ⟨rfl, rfl⟩
  go_wp2
  go_ret
  exact ⟨rfl, below1 _ _⟩
set_option maxRecDepth 100000 in
set_option maxHeartbeats 4000000 in
theorem sameints_any (va vb : Value) (A : List Nat) (w : World) (ha : NumsAt .i64 w va A) (hb : NumsAt .i64 w vb A) (hl : A.length ≤ 1000000) :
    Calls Tryz.prog 11 #[va, vb] w fun e w' => e = .returned (.bool true) ∧ Below w.heap.size w w' := by
  obtain ⟨a0, ca, rfl, hca⟩ := ha.open
  obtain ⟨b0, cb, rfl, hcb⟩ := hb.open
  have HA : Hid _ := hca
  have HB : Hid _ := hcb
  clear ha hb hca hcb
  go_enter Tryz.func11, Tryz.ntmps11
  go_wp2
  go_loopw [5] (fun si wr => ∃ i q : Nat, i ≤ A.length ∧ si = .int .i64 (i : Int) ∧ wr = w.drewN q) (fun si _ => A.length - (intOf si).toNat)
  case atStart => exact ⟨0, 0, Nat.zero_le _, rfl, rfl⟩
  case round =>
    obtain ⟨i, q, hi, rfl, rfl⟩ := hrel
    by_cases hlt : i < A.length
    · obtain ⟨x, hx⟩ : ∃ x, A[i]? = some x := ⟨_, List.getElem?_eq_getElem hlt⟩
      obtain ⟨g, off, rfl, c0⟩ := HA.out i x hx
      obtain ⟨g', off', rfl, d0⟩ := HB.out i x hx
      have hiI : (i : Int) < (A.length : Int) := by omega
      clear hx
      go_wp2
      go_quiet (fail)
      go_wp2
      go_roundw
      case rel => exact ⟨i + 1, _, by omega, by go_num, rfl⟩
      case measure => simp [intOf]; omega
    · obtain rfl : i = A.length := by omega
      go_wp2
      go_ret
      exact ⟨rfl, below_drewN (Below.refl _ _) _⟩
/-- is each number of the first list in the second one? -/
def allIn (A B : List Nat) : Bool := A.all fun x => B.any fun y => y == x
theorem allIn_iff {A B : List Nat} : allIn A B = true ↔ ∀ x ∈ A, x ∈ B := by
  unfold allIn
  rw [List.all_eq_true]
  constructor
  · intro h x hx
    obtain ⟨y, hy, e⟩ := List.any_eq_true.1 (h x hx)
    rw [beq_iff_eq] at e
    exact e ▸ hy
  · intro h x hx
    exact List.any_eq_true.2 ⟨x, h x hx, by simp⟩
theorem any_next {B : List Nat} {k y x : Nat} (h : B[k]? = some y) : (B.take (k + 1)).any (fun z => z == x) = ((B.take k).any (fun z => z == x) || y == x) := by
  rw [List.take_add_one, h, Option.toList_some, List.any_append]; simp
theorem all_next {A : List Nat} {f : Nat → Bool} {i x : Nat} (h : A[i]? = some x) : (A.take (i + 1)).all f = ((A.take i).all f && f x) := by
  rw [List.take_add_one, h, Option.toList_some, List.all_append]; simp
set_option maxRecDepth 100000 in
set_option maxHeartbeats 4000000 in
theorem within_ints (va vb : Value) (A B : List Nat) (w : World) (ha : NumsAt .i64 w va A) (hb : NumsAt .i64 w vb B) (hl1 : A.length ≤ 1000000) (hl2 : B.length ≤ 1000000) :
    Calls Tryz.prog 12 #[va, vb] w fun e w' => e = .returned (.bool (allIn A B)) ∧ Below w.heap.size w w' := by
  obtain ⟨a0, ca, rfl, hca⟩ := ha.open
  obtain ⟨b0, cb, rfl, hcb⟩ := hb.open
  have HA : Hid _ := hca
  have HB : Hid _ := hcb
  clear ha hb hca hcb
  go_enter Tryz.func12, Tryz.ntmps12
  go_wp2
  go_loopw [5] (fun si wr => ∃ i q : Nat, i ≤ A.length ∧ si = .int .i64 (i : Int) ∧ wr = w.drewN q ∧ Hid ((A.take i).all (fun x => B.any fun y => y == x) = true)) (fun si _ => A.length - (intOf si).toNat)
  case atStart => exact ⟨0, 0, Nat.zero_le _, rfl, rfl, by simp [Hid]⟩
  case round =>
    obtain ⟨i, q, hi, rfl, rfl, HI⟩ := hrel
    by_cases hlt : i < A.length
    · obtain ⟨x, hx⟩ : ∃ x, A[i]? = some x := ⟨_, List.getElem?_eq_getElem hlt⟩
      obtain ⟨g, off, rfl, c0⟩ := HA.out i x hx
      have hiI : (i : Int) < (A.length : Int) := by omega
      have HX : Hid _ := hx
      clear hx
      go_wp2
      go_loopw [6, 7] (fun s6 s7 wr => ∃ k q : Nat, k ≤ B.length ∧ s6 = .bool ((B.take k).any fun y => y == x) ∧ s7 = .int .i64 (k : Int) ∧ wr = w.drewN q) (fun _ s7 _ => B.length - (intOf s7).toNat)
      case atStart => exact ⟨0, q, Nat.zero_le _, by simp, rfl, rfl⟩
      case round =>
        obtain ⟨k, q, hk, rfl, rfl, rfl⟩ := hrel
        by_cases hlt2 : k < B.length
        · obtain ⟨y, hy⟩ : ∃ y, B[k]? = some y := ⟨_, List.getElem?_eq_getElem hlt2⟩
          obtain ⟨g', off', rfl, d0⟩ := HB.out k y hy
          have hkI : (k : Int) < (B.length : Int) := by omega
          have HN : Hid _ := any_next (x := x) hy
          clear hy
          cases hs : (B.take k).any fun y => y == x with
          | true =>
            have HS : Hid _ := hs
            clear hs
            go_wp2
            go_quiet (fail)
            go_wp2
            go_roundw
            case rel => exact ⟨k + 1, _, by omega, by rw [HN.out, HS.out]; rfl, by go_num, rfl⟩
            case measure => simp [intOf]; omega
          | false =>
            have HS : Hid _ := hs
            have hyx : ((y : Int) == (x : Int)) = (y == x) := by rw [Bool.eq_iff_iff, beq_iff_eq, beq_iff_eq]; omega
            clear hs
            go_wp2
            go_quiet (fail)
            go_wp2
            go_roundw
            case rel => exact ⟨k + 1, _, by omega, by rw [HN.out, HS.out]; first | rfl | (rw [← hyx]; rfl), by go_num, rfl⟩
            case measure => simp [intOf]; omega
        · obtain rfl : k = B.length := by omega
          have ht : (B.take B.length) = B := List.take_length
          rw [ht]
          clear ht
          have HN : Hid _ := all_next (f := fun x => B.any fun y => y == x) HX.out
          cases hs : B.any fun y => y == x with
          | true =>
            have HS : Hid _ := hs
            clear hs
            go_wp2
            go_roundw
            case rel => exact ⟨i + 1, _, by omega, by go_num, rfl, by show _ = true; rw [HN.out, HI.out, HS.out]; rfl⟩
            case measure => simp [intOf]; omega
          | false =>
            have HS : Hid (allIn A B = false) := (by
              cases h : allIn A B with
              | false => rfl
              | true =>
                have h2 := List.all_eq_true.1 h x (List.mem_of_getElem? HX.out)
                rw [hs] at h2
                exact absurd h2 (by decide) : _ = _)
            clear hs
            go_wp2
            go_ret
            exact ⟨by rw [HS.out]; rfl, below_drewN (Below.refl _ _) _⟩
    · obtain rfl : i = A.length := by omega
      have HS : Hid (allIn A B = true) := (by
        have := HI.out
        rw [List.take_length] at this
        exact this : _ = _)
      clear HI
      go_wp2
      go_ret
      exact ⟨by rw [HS.out]; rfl, below_drewN (Below.refl _ _) _⟩
theorem codes_app (a b : ByteArray) : codes (a ++ b) = codes a ++ codes b := by
  unfold codes
  simp
theorem codes_one (c : UInt8) : codes ⟨#[c]⟩ = [c.toNat] := rfl
end Go.Proofs.YtphjbbbnbmafnabGreatDoor.G
