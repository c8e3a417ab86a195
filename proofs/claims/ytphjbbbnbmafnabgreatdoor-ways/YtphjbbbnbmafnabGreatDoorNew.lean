/-
  succ.NewBits: from a text of at most 100000 letters 0 and 1 it makes its vector of bits in new memory and answers OK; from any other text it answers nil and ErrInput; nothing that was there is written. No condition but that a string is no longer than Go allows.
  trelliskeep.shown returns true, and trelliskeep.pick returns a number from 0 up to but without n (n from 1 up); nothing that was there is written. No condition besides.
-/
import Derived.Test.YtphjbbbnbmafnabGreatDoorMade
import Derived.BigRegion
namespace Go.Proofs.YtphjbbbnbmafnabGreatDoor
open Go.RowKit

def NewPost (s : ByteArray) (w : World) (e : Ending) (w' : World) : Prop :=
  Below w.heap.size w w' ∧ ((okB s = false ∧ e = .returned (.tuple #[.pointer none, .int .i64 2])) ∨ (okB s = true ∧ ∃ b bw ba W, e = .returned (.tuple #[.pointer (some ⟨b, 0, none⟩), .int .i64 0]) ∧ BitsAt w' b bw ba (bitOf s) s.size W))

set_option maxHeartbeats 400000 in
theorem new_long (s : ByteArray) (w : World) (hm : s.size ≤ maxLen) (hs : 100000 < s.size) : Calls Tryz.prog 44 #[.string s] w (NewPost s w) := by
  unfold maxLen at hm
  have hs1 : (100000 : Int) < (s.size : Int) := by omega
  have H : Hid _ := not_okB_long hs
  go_enter Tryz.func44, Tryz.ntmps44
  go_wp2
  go_ret2
  exact ⟨Below.refl _ _, .inl ⟨H.out, rfl⟩⟩

def Rel (s : ByteArray) (w : World) (c : Value) (wr : World) : Prop := ∃ (k : Nat) (xs : List Value), k ≤ s.size ∧ c = .int .i64 k ∧ wr.ownsRow w.heap.size 112 1 (.slice (some ⟨w.heap.size, 0, none⟩) (s.size / 64 + 1) (s.size / 64 + 1)) (s.size / 64 + 1) xs ∧ Below w.heap.size w wr ∧ Words (bitOf s) (s.size / 64 + 1) k xs ∧ okTo s k

theorem facts {s : ByteArray} {wr : World} {B k : Nat} {xs : List Value} (hlt : k < s.size) (hown : wr.ownsRow B 112 1 (.slice (some ⟨B, 0, none⟩) (s.size / 64 + 1) (s.size / 64 + 1)) (s.size / 64 + 1) xs) (hwo : Words (bitOf s) (s.size / 64 + 1) k xs) :
    ∃ X : Nat, wr.cell? ⟨B, k / 64, none⟩ = some (.int .u64 (X : Int)) ∧ wr.frozen? ⟨B, k / 64, none⟩ = false ∧ Hid (X = wordOf (upto (bitOf s) k) (k / 64) 64) :=
  ⟨_, (hown.cellAt (k / 64) (by omega)).trans (hwo.2 (k / 64) (by omega)), hown.frozenAt (k / 64), (rfl : _ = _)⟩
theorem bit_48 {s : ByteArray} {k : Nat} (hlt : k < s.size) (h : ((s[k].toNat : Int) == 48) = true) : s.data.toList[k]? = some 48 ∧ bitOf s k = false := by
  have e := byte_is s[k] 48 h
  have a := at_k s k hlt
  rw [e] at a
  exact ⟨a, by unfold bitOf; rw [a]; decide⟩
theorem bit_49 {s : ByteArray} {k : Nat} (hlt : k < s.size) (h : ((s[k].toNat : Int) == 49) = true) : s.data.toList[k]? = some 49 ∧ bitOf s k = true := by
  have e := byte_is s[k] 49 h
  have a := at_k s k hlt
  rw [e] at a
  exact ⟨a, by unfold bitOf; rw [a]; decide⟩
theorem bit_out {s : ByteArray} (i : Nat) (h : s.size ≤ i) : bitOf s i = false := by
  unfold bitOf
  rw [List.getElem?_eq_none (by simpa using h)]; rfl
theorem rel_keep {s : ByteArray} {w wr : World} {k : Nat} {xs : List Value} (hlt : k < s.size) (h : ((s[k].toNat : Int) == 48) = true) (hown : wr.ownsRow w.heap.size 112 1 (.slice (some ⟨w.heap.size, 0, none⟩) (s.size / 64 + 1) (s.size / 64 + 1)) (s.size / 64 + 1) xs)
    (hwo : Words (bitOf s) (s.size / 64 + 1) k xs) (hbel : Below w.heap.size w wr) (hok : okTo s k) : Rel s w (.int .i64 ((k : Int) + 1)) wr := by
  obtain ⟨a, b⟩ := bit_48 hlt h
  exact ⟨k + 1, xs, by omega, by go_num, hown, hbel, words_keep hwo b, okTo_succ hok (.inl a)⟩
theorem rel_set {s : ByteArray} {w wr : World} {k X : Nat} {xs : List Value} (hlt : k < s.size) (h : ((s[k].toNat : Int) == 49) = true) (hown : wr.ownsRow w.heap.size 112 1 (.slice (some ⟨w.heap.size, 0, none⟩) (s.size / 64 + 1) (s.size / 64 + 1)) (s.size / 64 + 1) xs)
    (hwo : Words (bitOf s) (s.size / 64 + 1) k xs) (hbel : Below w.heap.size w wr) (hok : okTo s k) (hX : X = wordOf (upto (bitOf s) k) (k / 64) 64) :
    Rel s w (.int .i64 ((k : Int) + 1)) (wr.setCell { block := w.heap.size, off := k / 64 } (Value.int IntKind.u64 (bits BinOp.or IntKind.u64 (X : Int) (IntKind.u64.wrap (2 ^ (k % 64)))))).drew := by
  obtain ⟨a, b⟩ := bit_49 hlt h
  have hx : X < 18446744073709551616 := by rw [hX]; exact wordOf_64 _ _
  have hu := or_int X (k % 64) hx (by omega)
  have hst := (hown.stored (k / 64) (.int .u64 (bits BinOp.or IntKind.u64 (X : Int) (IntKind.u64.wrap (2 ^ (k % 64)))))).1
  have hws := words_set hwo b (bits BinOp.or IntKind.u64 (X : Int) (IntKind.u64.wrap (2 ^ (k % 64)))) (by rw [hu, ← hX])
  exact ⟨k + 1, _, by omega, by go_num, hst.drew, (hbel.setCell (Nat.le_refl _) _).drew, hws, okTo_succ hok (.inr a)⟩
theorem bow_new {s : ByteArray} {w wr : World} {xs : List Value} (hs : s.size ≤ 100000) (hown : wr.ownsRow w.heap.size 112 1 (.slice (some ⟨w.heap.size, 0, none⟩) (s.size / 64 + 1) (s.size / 64 + 1)) (s.size / 64 + 1) xs) (hwo : Words (bitOf s) (s.size / 64 + 1) s.size xs) :
    Calls Tryz.prog 74 #[.slice (some ⟨w.heap.size, 0, none⟩) (s.size / 64 + 1) (s.size / 64 + 1), .int .i64 (s.size : Int)] wr fun e w' => ∃ b ba, e = .returned (.pointer (some ⟨b, 0, none⟩)) ∧ BitsAt w' b w.heap.size ba (bitOf s) s.size (fun j => wordOf (bitOf s) j 64) ∧ Below wr.heap.size wr w' := by
  refine bow_any w.heap.size s.size (bitOf s) (fun j => wordOf (bitOf s) j 64) hs ?_ (fun j => wordOf_64 _ _) ?_ bit_out
  · intro j hj
    rw [hown.cellAt j (by omega), hwo.2 j hj]
    have e : wordOf (upto (bitOf s) s.size) j 64 = wordOf (bitOf s) j 64 := wordOf_congr fun i _ => by
      unfold upto
      by_cases e : 64 * j + i < s.size
      · simp [e]
      · rw [bit_out _ (by omega)]; rfl
    rw [e]
  · intro j i hi
    show (wordOf (bitOf s) j 64).testBit i = _
    rw [wordOf_bit]; simp [hi]
set_option maxHeartbeats 2000000 in
set_option maxRecDepth 100000 in
theorem new_any (s : ByteArray) (w : World) (hs : s.size ≤ 100000) : Calls Tryz.prog 44 #[.string s] w (NewPost s w) := by
  obtain ⟨i0, hi, hz0, hz1, hz2⟩ := info_parts Tryz.info112
  go_enter Tryz.func44, Tryz.ntmps44
  go_wp2_with (at_make; refine wpList_make_full _ rfl _ _ 151 rfl w.heap.size 112 i0 (.int .u64 0) 1 Tryz.underlying151 hi hz0 hz1 _ _ _ _ (s.size / 64 + 1) rfl rfl (by omega) (by omega) (by rw [hz2]; omega) (by unfold maxLen; omega) (Nat.le_refl _) ?_; intro w1 hown hgrow)
  have hb1 : Below w.heap.size w w1 := (Below.refl _ _).grown hgrow (Nat.le_refl _) (fun k hk => by cases hk)
  have hst := words_start (bitOf s) (s.size / 64 + 1)
  generalize (madeCells (Value.int IntKind.u64 0).cells ((s.size / 64 + 1) * 1)).toList = xs0 at hown hst
  clear hgrow
  go_loopw [16] (fun c wr => Rel s w c wr) (fun c _ => s.size - (intOf c).toNat)
  case atStart => exact ⟨0, xs0, Nat.zero_le _, rfl, hown, hb1, hst, fun i hi => absurd hi (Nat.not_lt_zero _)⟩
  case round =>
    clear hown hst hb1
    obtain ⟨k, xs, hk, rfl, hown, hbel, hwo, hok⟩ := hrel
    have HO : Hid _ := hown
    have HW : Hid _ := hwo
    have HK : Hid _ := hok
    have HB : Hid _ := hbel
    by_cases hlt : k < s.size
    · obtain ⟨X, hcell, hfr, HX⟩ := facts hlt hown hwo
      clear hown hwo hok hbel
      have hk1 : (k : Int) / 64 < ((s.size / 64 + 1 : Nat) : Int) := by omega
      have hk2 : (k : Int) / 64 < (s.size : Int) / 64 + 1 := by omega
      go_wp2
      · go_roundw
        case rel => exact rel_keep hlt (by assumption) HO.out HW.out HB.out HK.out
        case measure => simp [intOf]; omega
      · go_region
        go_wp2
        go_roundw
        case rel => exact rel_set hlt (by assumption) HO.out HW.out HB.out HK.out HX.out
        case measure => simp [intOf]; omega
      · go_ret2
        exact ⟨HB.out, .inl ⟨not_okB hlt (byte_not _ 48 (by assumption)) (byte_not _ 49 (by assumption)), rfl⟩⟩
    · obtain rfl : k = s.size := by omega
      clear hown hwo hok hbel
      go_wp2_with (go_at_call 74; refine (bow_new hs HO.out HW.out).mono ?_; rintro e w' ⟨b, ba, rfl, hbits, hnew⟩)
      go_ret2
      exact ⟨HB.out.trans (hnew.mono HB.out.size), .inr ⟨okB_of hs HK.out, b, _, ba, _, rfl, hbits⟩⟩
theorem new_all (s : ByteArray) (w : World) (hm : s.size ≤ maxLen) : Calls Tryz.prog 44 #[.string s] w (NewPost s w) := by
  by_cases h : s.size ≤ 100000
  · exact new_any s w h
  · exact new_long s w hm (by omega)
end Go.Proofs.YtphjbbbnbmafnabGreatDoor

namespace Go.Proofs.YtphjbbbnbmafnabGreatDoor
open Go.RowKit

set_option maxHeartbeats 400000 in
theorem pick_any (c : Int) (n : Nat) (hc : -9223372036854775808 ≤ c ∧ c ≤ 9223372036854775807) (hn : 1 ≤ n) (hn2 : n ≤ 9223372036854775807) (N : Int) (hN : N = (n : Int)) (w : World) :
    Calls Tryz.prog 8 #[.int .i64 c, .int .i64 N] w fun e w' => ∃ r : Nat, e = .returned (.int .i64 (r : Int)) ∧ r < n ∧ w' = w := by
  subst hN
  obtain ⟨h1, h2⟩ := hc
  have hz : ((n : Int) == 0) = false := by simp; omega
  by_cases h : c < 0
  · go_enter Tryz.func8, Tryz.ntmps8
    go_wp2
    go_ret
    have e : -(c + 1).tmod (n : Int) = (-(c + 1)) % (n : Int) := by
      rw [← Int.neg_tmod, Int.tmod_eq_emod_of_nonneg (by omega)]
    have l0 := Int.emod_nonneg (-(c + 1)) (show (n : Int) ≠ 0 by omega)
    have l1 := Int.emod_lt_of_pos (-(c + 1)) (show (0 : Int) < (n : Int) by omega)
    exact ⟨((-(c + 1)) % (n : Int)).toNat, ret_int (by rw [e]; omega), by omega, rfl⟩
  · go_enter Tryz.func8, Tryz.ntmps8
    go_wp2
    go_ret
    have l0 := Int.emod_nonneg c (show (n : Int) ≠ 0 by omega)
    have l1 := Int.emod_lt_of_pos c (show (0 : Int) < (n : Int) by omega)
    exact ⟨(c % (n : Int)).toNat, ret_int (by omega), by omega, rfl⟩
/-- which of n things a raw number speaks of -/
def pk (c : Int) (n : Nat) : Nat := ((if c < 0 then -(c + 1) else c) % (n : Int)).toNat
theorem pk_lt (c : Int) (n : Nat) (hn : 1 ≤ n) : pk c n < n := by
  unfold pk
  have l0 := Int.emod_nonneg (if c < 0 then -(c + 1) else c) (show (n : Int) ≠ 0 by omega)
  have l1 := Int.emod_lt_of_pos (if c < 0 then -(c + 1) else c) (show (0 : Int) < (n : Int) by omega)
  omega
set_option maxHeartbeats 400000 in
theorem pick_fn (c : Int) (n : Nat) (hc : -9223372036854775808 ≤ c ∧ c ≤ 9223372036854775807) (hn : 1 ≤ n) (hn2 : n ≤ 9223372036854775807) (N : Int) (hN : N = (n : Int)) (w : World) :
    Calls Tryz.prog 8 #[.int .i64 c, .int .i64 N] w fun e w' => e = .returned (.int .i64 (pk c n : Int)) ∧ w' = w := by
  subst hN
  obtain ⟨h1, h2⟩ := hc
  have hz : ((n : Int) == 0) = false := by simp; omega
  by_cases h : c < 0
  · have HV : Hid ((pk c n : Int) = (-(c + 1)) % (n : Int)) := (by
      have l0 := Int.emod_nonneg (-(c + 1)) (show (n : Int) ≠ 0 by omega)
      unfold pk; rw [if_pos h]; omega : _ = _)
    go_enter Tryz.func8, Tryz.ntmps8
    go_wp2
    go_ret
    have e : -(c + 1).tmod (n : Int) = (-(c + 1)) % (n : Int) := by
      rw [← Int.neg_tmod, Int.tmod_eq_emod_of_nonneg (by omega)]
    exact ⟨ret_int (by rw [HV.out, e]), rfl⟩
  · have HV : Hid ((pk c n : Int) = c % (n : Int)) := (by
      have l0 := Int.emod_nonneg c (show (n : Int) ≠ 0 by omega)
      unfold pk; rw [if_neg h]; omega : _ = _)
    go_enter Tryz.func8, Tryz.ntmps8
    go_wp2
    go_ret
    exact ⟨ret_int HV.out.symm, rfl⟩
end Go.Proofs.YtphjbbbnbmafnabGreatDoor
