/-
  succ.NewBits: from a text of at most 100000 letters 0 and 1 it makes its vector of bits in new memory and answers OK; from any other text it answers nil and ErrInput; nothing that was there is written. No condition but that a string is no longer than Go allows.
  trelliskeep.shown returns true, and trelliskeep.pick returns a number from 0 up to but without n (n from 1 up); nothing that was there is written. No condition besides.
  The document's own sum of a page (trellisref.sum) over a row of bytes that lies in memory: it is the sum that the text Crc speaks of; nothing that was there is written.
  The document's own pages (trellisref.pages): bits, told as a text of 0 and 1, as bytes: pages of 252 bytes, each with its sum behind it; nothing that was there is written. The text is at least one page long and at most a thousand.
  A graph as bits and as pages, without the program: the numbers, the ones and zeros of where edges are from, the labels, where they go to. No condition.
-/
import Derived.Test.YtphjbbbnbmafnabGreatDoorMade
import Derived.BigRegion
import Derived.Test.YtphjbbbnbmafnabGreatDoorEqE
import Derived.OwnWalk
import Derived.Test.YtphjbbbnbmafnabGreatDoorGMath
namespace Go.Proofs.YtphjbbbnbmafnabGreatDoor
open Go.RowKit

def NewPost (s : ByteArray) (w : World) (e : Ending) (w' : World) : Prop :=
  Below w.heap.size w w' ∧ ((okB s = false ∧ e = .returned (.tuple #[.pointer none, .int .i64 2])) ∨ (okB s = true ∧ ∃ b bw ba W, e = .returned (.tuple #[.pointer (some ⟨b, 0, none⟩), .int .i64 0]) ∧ BitsAt w' b bw ba (bitOf s) s.size W))

set_option maxHeartbeats 400000 in
theorem new_long (s : ByteArray) (w : World) (hm : s.size ≤ maxLen) (hs : 100000 < s.size) : Calls Tryz.prog 44 #[.string s] w (NewPost s w) := by
  unfold maxLen at hm
  have hs1 : (100000 : Int) < (s.size : Int) := by omega
  have H : Hid _ := not_okB_long hs
  go_enter Tryz.func44, Tryz.ntmps44
  go_wp2
  go_ret2
  exact ⟨Below.refl _ _, .inl ⟨H.out, rfl⟩⟩

def Rel (s : ByteArray) (w : World) (c : Value) (wr : World) : Prop := ∃ (k : Nat) (xs : List Value), k ≤ s.size ∧ c = .int .i64 k ∧ wr.ownsRow w.heap.size 112 1 (.slice (some ⟨w.heap.size, 0, none⟩) (s.size / 64 + 1) (s.size / 64 + 1)) (s.size / 64 + 1) xs ∧ Below w.heap.size w wr ∧ Words (bitOf s) (s.size / 64 + 1) k xs ∧ okTo s k

theorem facts {s : ByteArray} {wr : World} {B k : Nat} {xs : List Value} (hlt : k < s.size) (hown : wr.ownsRow B 112 1 (.slice (some ⟨B, 0, none⟩) (s.size / 64 + 1) (s.size / 64 + 1)) (s.size / 64 + 1) xs) (hwo : Words (bitOf s) (s.size / 64 + 1) k xs) :
    ∃ X : Nat, wr.cell? ⟨B, k / 64, none⟩ = some (.int .u64 (X : Int)) ∧ wr.frozen? ⟨B, k / 64, none⟩ = false ∧ Hid (X = wordOf (upto (bitOf s) k) (k / 64) 64) :=
  ⟨_, (hown.cellAt (k / 64) (by omega)).trans (hwo.2 (k / 64) (by omega)), hown.frozenAt (k / 64), (rfl : _ = _)⟩
theorem bit_48 {s : ByteArray} {k : Nat} (hlt : k < s.size) (h : ((s[k].toNat : Int) == 48) = true) : s.data.toList[k]? = some 48 ∧ bitOf s k = false := by
  have e := byte_is s[k] 48 h
  have a := at_k s k hlt
  rw [e] at a
  exact ⟨a, by unfold bitOf; rw [a]; decide⟩
theorem bit_49 {s : ByteArray} {k : Nat} (hlt : k < s.size) (h : ((s[k].toNat : Int) == 49) = true) : s.data.toList[k]? = some 49 ∧ bitOf s k = true := by
  have e := byte_is s[k] 49 h
  have a := at_k s k hlt
  rw [e] at a
  exact ⟨a, by unfold bitOf; rw [a]; decide⟩
theorem bit_out {s : ByteArray} (i : Nat) (h : s.size ≤ i) : bitOf s i = false := by
  unfold bitOf
  rw [List.getElem?_eq_none (by simpa using h)]; rfl
theorem rel_keep {s : ByteArray} {w wr : World} {k : Nat} {xs : List Value} (hlt : k < s.size) (h : ((s[k].toNat : Int) == 48) = true) (hown : wr.ownsRow w.heap.size 112 1 (.slice (some ⟨w.heap.size, 0, none⟩) (s.size / 64 + 1) (s.size / 64 + 1)) (s.size / 64 + 1) xs)
    (hwo : Words (bitOf s) (s.size / 64 + 1) k xs) (hbel : Below w.heap.size w wr) (hok : okTo s k) : Rel s w (.int .i64 ((k : Int) + 1)) wr := by
  obtain ⟨a, b⟩ := bit_48 hlt h
  exact ⟨k + 1, xs, by omega, by go_num, hown, hbel, words_keep hwo b, okTo_succ hok (.inl a)⟩
theorem rel_set {s : ByteArray} {w wr : World} {k X : Nat} {xs : List Value} (hlt : k < s.size) (h : ((s[k].toNat : Int) == 49) = true) (hown : wr.ownsRow w.heap.size 112 1 (.slice (some ⟨w.heap.size, 0, none⟩) (s.size / 64 + 1) (s.size / 64 + 1)) (s.size / 64 + 1) xs)
    (hwo : Words (bitOf s) (s.size / 64 + 1) k xs) (hbel : Below w.heap.size w wr) (hok : okTo s k) (hX : X = wordOf (upto (bitOf s) k) (k / 64) 64) :
    Rel s w (.int .i64 ((k : Int) + 1)) (wr.setCell { block := w.heap.size, off := k / 64 } (Value.int IntKind.u64 (bits BinOp.or IntKind.u64 (X : Int) (IntKind.u64.wrap (2 ^ (k % 64)))))).drew := by
  obtain ⟨a, b⟩ := bit_49 hlt h
  have hx : X < 18446744073709551616 := by rw [hX]; exact wordOf_64 _ _
  have hu := or_int X (k % 64) hx (by omega)
  have hst := (hown.stored (k / 64) (.int .u64 (bits BinOp.or IntKind.u64 (X : Int) (IntKind.u64.wrap (2 ^ (k % 64)))))).1
  have hws := words_set hwo b (bits BinOp.or IntKind.u64 (X : Int) (IntKind.u64.wrap (2 ^ (k % 64)))) (by rw [hu, ← hX])
  exact ⟨k + 1, _, by omega, by go_num, hst.drew, (hbel.setCell (Nat.le_refl _) _).drew, hws, okTo_succ hok (.inr a)⟩
theorem bow_new {s : ByteArray} {w wr : World} {xs : List Value} (hs : s.size ≤ 100000) (hown : wr.ownsRow w.heap.size 112 1 (.slice (some ⟨w.heap.size, 0, none⟩) (s.size / 64 + 1) (s.size / 64 + 1)) (s.size / 64 + 1) xs) (hwo : Words (bitOf s) (s.size / 64 + 1) s.size xs) :
    Calls Tryz.prog 74 #[.slice (some ⟨w.heap.size, 0, none⟩) (s.size / 64 + 1) (s.size / 64 + 1), .int .i64 (s.size : Int)] wr fun e w' => ∃ b ba, e = .returned (.pointer (some ⟨b, 0, none⟩)) ∧ BitsAt w' b w.heap.size ba (bitOf s) s.size (fun j => wordOf (bitOf s) j 64) ∧ Below wr.heap.size wr w' := by
  refine bow_any w.heap.size s.size (bitOf s) (fun j => wordOf (bitOf s) j 64) hs ?_ (fun j => wordOf_64 _ _) ?_ bit_out
  · intro j hj
    rw [hown.cellAt j (by omega), hwo.2 j hj]
    have e : wordOf (upto (bitOf s) s.size) j 64 = wordOf (bitOf s) j 64 := wordOf_congr fun i _ => by
      unfold upto
      by_cases e : 64 * j + i < s.size
      · simp [e]
      · rw [bit_out _ (by omega)]; rfl
    rw [e]
  · intro j i hi
    show (wordOf (bitOf s) j 64).testBit i = _
    rw [wordOf_bit]; simp [hi]
set_option maxHeartbeats 2000000 in
set_option maxRecDepth 100000 in
theorem new_any (s : ByteArray) (w : World) (hs : s.size ≤ 100000) : Calls Tryz.prog 44 #[.string s] w (NewPost s w) := by
  obtain ⟨i0, hi, hz0, hz1, hz2⟩ := info_parts Tryz.info112
  go_enter Tryz.func44, Tryz.ntmps44
  go_wp2_with (at_make; refine wpList_make_full _ rfl _ _ 151 rfl w.heap.size 112 i0 (.int .u64 0) 1 Tryz.underlying151 hi hz0 hz1 _ _ _ _ (s.size / 64 + 1) rfl rfl (by omega) (by omega) (by rw [hz2]; omega) (by unfold maxLen; omega) (Nat.le_refl _) ?_; intro w1 hown hgrow)
  have hb1 : Below w.heap.size w w1 := (Below.refl _ _).grown hgrow (Nat.le_refl _) (fun k hk => by cases hk)
  have hst := words_start (bitOf s) (s.size / 64 + 1)
  generalize (madeCells (Value.int IntKind.u64 0).cells ((s.size / 64 + 1) * 1)).toList = xs0 at hown hst
  clear hgrow
  go_loopw [16] (fun c wr => Rel s w c wr) (fun c _ => s.size - (intOf c).toNat)
  case atStart => exact ⟨0, xs0, Nat.zero_le _, rfl, hown, hb1, hst, fun i hi => absurd hi (Nat.not_lt_zero _)⟩
  case round =>
    clear hown hst hb1
    obtain ⟨k, xs, hk, rfl, hown, hbel, hwo, hok⟩ := hrel
    have HO : Hid _ := hown
    have HW : Hid _ := hwo
    have HK : Hid _ := hok
    have HB : Hid _ := hbel
    by_cases hlt : k < s.size
    · obtain ⟨X, hcell, hfr, HX⟩ := facts hlt hown hwo
      clear hown hwo hok hbel
      have hk1 : (k : Int) / 64 < ((s.size / 64 + 1 : Nat) : Int) := by omega
      have hk2 : (k : Int) / 64 < (s.size : Int) / 64 + 1 := by omega
      go_wp2
      · go_roundw
        case rel => exact rel_keep hlt (by assumption) HO.out HW.out HB.out HK.out
        case measure => simp [intOf]; omega
      · go_region
        go_wp2
        go_roundw
        case rel => exact rel_set hlt (by assumption) HO.out HW.out HB.out HK.out HX.out
        case measure => simp [intOf]; omega
      · go_ret2
        exact ⟨HB.out, .inl ⟨not_okB hlt (byte_not _ 48 (by assumption)) (byte_not _ 49 (by assumption)), rfl⟩⟩
    · obtain rfl : k = s.size := by omega
      clear hown hwo hok hbel
      go_wp2_with (go_at_call 74; refine (bow_new hs HO.out HW.out).mono ?_; rintro e w' ⟨b, ba, rfl, hbits, hnew⟩)
      go_ret2
      exact ⟨HB.out.trans (hnew.mono HB.out.size), .inr ⟨okB_of hs HK.out, b, _, ba, _, rfl, hbits⟩⟩
theorem new_all (s : ByteArray) (w : World) (hm : s.size ≤ maxLen) : Calls Tryz.prog 44 #[.string s] w (NewPost s w) := by
  by_cases h : s.size ≤ 100000
  · exact new_any s w h
  · exact new_long s w hm (by omega)
end Go.Proofs.YtphjbbbnbmafnabGreatDoor

namespace Go.Proofs.YtphjbbbnbmafnabGreatDoor
open Go.RowKit

set_option maxHeartbeats 400000 in
theorem pick_any (c : Int) (n : Nat) (hc : -9223372036854775808 ≤ c ∧ c ≤ 9223372036854775807) (hn : 1 ≤ n) (hn2 : n ≤ 9223372036854775807) (N : Int) (hN : N = (n : Int)) (w : World) :
    Calls Tryz.prog 8 #[.int .i64 c, .int .i64 N] w fun e w' => ∃ r : Nat, e = .returned (.int .i64 (r : Int)) ∧ r < n ∧ w' = w := by
  subst hN
  obtain ⟨h1, h2⟩ := hc
  have hz : ((n : Int) == 0) = false := by simp; omega
  by_cases h : c < 0
  · go_enter Tryz.func8, Tryz.ntmps8
    go_wp2
    go_ret
    have e : -(c + 1).tmod (n : Int) = (-(c + 1)) % (n : Int) := by
      rw [← Int.neg_tmod, Int.tmod_eq_emod_of_nonneg (by omega)]
    have l0 := Int.emod_nonneg (-(c + 1)) (show (n : Int) ≠ 0 by omega)
    have l1 := Int.emod_lt_of_pos (-(c + 1)) (show (0 : Int) < (n : Int) by omega)
    exact ⟨((-(c + 1)) % (n : Int)).toNat, ret_int (by rw [e]; omega), by omega, rfl⟩
  · go_enter Tryz.func8, Tryz.ntmps8
    go_wp2
    go_ret
    have l0 := Int.emod_nonneg c (show (n : Int) ≠ 0 by omega)
    have l1 := Int.emod_lt_of_pos c (show (0 : Int) < (n : Int) by omega)
    exact ⟨(c % (n : Int)).toNat, ret_int (by omega), by omega, rfl⟩
/-- which of n things a raw number speaks of -/
def pk (c : Int) (n : Nat) : Nat := ((if c < 0 then -(c + 1) else c) % (n : Int)).toNat
theorem pk_lt (c : Int) (n : Nat) (hn : 1 ≤ n) : pk c n < n := by
  unfold pk
  have l0 := Int.emod_nonneg (if c < 0 then -(c + 1) else c) (show (n : Int) ≠ 0 by omega)
  have l1 := Int.emod_lt_of_pos (if c < 0 then -(c + 1) else c) (show (0 : Int) < (n : Int) by omega)
  omega
set_option maxHeartbeats 400000 in
theorem pick_fn (c : Int) (n : Nat) (hc : -9223372036854775808 ≤ c ∧ c ≤ 9223372036854775807) (hn : 1 ≤ n) (hn2 : n ≤ 9223372036854775807) (N : Int) (hN : N = (n : Int)) (w : World) :
    Calls Tryz.prog 8 #[.int .i64 c, .int .i64 N] w fun e w' => e = .returned (.int .i64 (pk c n : Int)) ∧ w' = w := by
  subst hN
  obtain ⟨h1, h2⟩ := hc
  have hz : ((n : Int) == 0) = false := by simp; omega
  by_cases h : c < 0
  · have HV : Hid ((pk c n : Int) = (-(c + 1)) % (n : Int)) := (by
      have l0 := Int.emod_nonneg (-(c + 1)) (show (n : Int) ≠ 0 by omega)
      unfold pk; rw [if_pos h]; omega : _ = _)
    go_enter Tryz.func8, Tryz.ntmps8
    go_wp2
    go_ret
    have e : -(c + 1).tmod (n : Int) = (-(c + 1)) % (n : Int) := by
      rw [← Int.neg_tmod, Int.tmod_eq_emod_of_nonneg (by omega)]
    exact ⟨ret_int (by rw [HV.out, e]), rfl⟩
  · have HV : Hid ((pk c n : Int) = c % (n : Int)) := (by
      have l0 := Int.emod_nonneg c (show (n : Int) ≠ 0 by omega)
      unfold pk; rw [if_neg h]; omega : _ = _)
    go_enter Tryz.func8, Tryz.ntmps8
    go_wp2
    go_ret
    exact ⟨ret_int HV.out.symm, rfl⟩
end Go.Proofs.YtphjbbbnbmafnabGreatDoor

namespace Go.Proofs.YtphjbbbnbmafnabGreatDoor.G
open Go.RowKit

theorem i64_xor_nat (a b : Nat) (ha : a < 9223372036854775808) (hb : b < 9223372036854775808) : bits .xor .i64 (a : Int) (b : Int) = ((a ^^^ b : Nat) : Int) := by
  have hx : a ^^^ b < 2 ^ 63 := Nat.xor_lt_two_pow (by omega) (by omega)
  show IntKind.i64.wrap ((BitVec.ofInt 64 (a : Int) ^^^ BitVec.ofInt 64 (b : Int)).toNat : Int) = _
  rw [BitVec.toNat_xor]
  have e1 : (BitVec.ofInt 64 (a : Int)).toNat = a := by simp; omega
  have e2 : (BitVec.ofInt 64 (b : Int)).toNat = b := by simp; omega
  rw [e1, e2, IntKind.wrap_i64]
  omega
theorem shift_big {c : Nat} (h1 : 2147483648 ≤ c) (h2 : c < 4294967296) : Crc.shift c = (2 * c - 4294967296) ^^^ Crc.poly := by
  unfold Crc.shift
  have hb : c.testBit 31 = true := by
    rw [Nat.testBit_eq_decide_div_mod_eq]
    have : c / 2 ^ 31 = 1 := by omega
    rw [this]; rfl
  rw [hb, if_pos rfl, show 2 * c % 4294967296 = 2 * c - 4294967296 by omega]
theorem shift_small {c : Nat} (h : c < 2147483648) : Crc.shift c = 2 * c := by
  unfold Crc.shift
  have hb : c.testBit 31 = false := Nat.testBit_lt_two_pow (by omega)
  rw [hb, if_neg (by decide), Nat.xor_zero]; omega
/-- a row of bytes in memory -/
def RowB (w : World) (v : Value) (l : List Nat) : Prop := ∃ g off cap, v = .slice (some ⟨g, off, none⟩) l.length cap ∧ ∀ (j x : Nat), l[j]? = some x → w.cell? ⟨g, off + j, none⟩ = some (.int .u8 (x : Int))
def valsB (l : List Nat) : List Value := l.map fun (x : Nat) => Value.int .u8 (x : Int)
theorem Tryz.infoB : (Tryz.prog.info? 5).map (fun i => (i.zero, i.size, i.bytes)) = some (some (.int .u8 0), 1, 1) := by kernel_rfl
theorem addr_add (b off i : Nat) : (⟨b, off, none⟩ : Addr).add i = ⟨b, off + i, none⟩ := by
  by_cases e : i = 0
  · subst e; simp [Addr.add]
  · simp [Addr.add, e]
/-- the four bytes of the page's number, as the code reckons them -/
theorem four_own (w : World) (a b c d : Value) (t : TypeId) : (w.alloc (.cells #[a, b, c, d] t)).ownsRow w.heap.size t 1 (.slice (some ⟨w.heap.size, 0, none⟩) 4 4) 4 [a, b, c, d] := by
  refine ⟨rfl, .inr ⟨w.heap.size, 4, #[a, b, c, d], rfl, Nat.le_refl _, ?_, Nat.le_refl _, by decide, rfl, rfl⟩⟩
  show (w.heap.push _)[w.heap.size]? = _
  simp

theorem vals_cell {w w' : World} {g off : Nat} {l : List Nat} (hc : ∀ (j x : Nat), l[j]? = some x → w.cell? ⟨g, off + j, none⟩ = some (.int .u8 (x : Int))) (hB : Below w.heap.size w w') (j : Nat) (u : Value) (h : (valsB l)[j]? = some u) : w'.cell? ((⟨g, off, none⟩ : Addr).add j) = some u := by
  unfold valsB at h
  rw [List.getElem?_map] at h
  cases hx : l[j]? with
  | none => rw [hx] at h; cases h
  | some x =>
    rw [hx] at h
    simp at h
    rw [addr_add, ← h]
    exact cell_kept hB _ _ (hc j x hx)
theorem vals_one (l : List Nat) (u : Value) (h : u ∈ valsB l) : u.oneCell' = true := by
  unfold valsB at h
  obtain ⟨x, _, rfl⟩ := List.mem_map.1 h
  rfl
theorem le_alloc {B : Nat} {w : World} {o : Obj} (h : B ≤ w.heap.size) : B ≤ (w.alloc o).heap.size := by simp; omega
theorem be4_vals (p : Nat) (hp : p ≤ 1000) : [Value.int .u8 ((p : Int) / 16777216), .int .u8 ((p : Int) / 65536), .int .u8 ((p : Int) / 256), .int .u8 ((p : Int) % 256)] = valsB (Crc.be4 p) := by
  unfold valsB Crc.be4
  simp only [List.map_cons, List.map_nil]
  rw [show ((p / 16777216 % 256 : Nat) : Int) = (p : Int) / 16777216 by omega, show ((p / 65536 % 256 : Nat) : Int) = (p : Int) / 65536 by omega, show ((p / 256 % 256 : Nat) : Int) = (p : Int) / 256 by omega, show ((p % 256 : Nat) : Int) = (p : Int) % 256 by omega]
theorem crc_snoc (c : Nat) (l : List Nat) (x : Nat) : Crc.crc c (l ++ [x]) = Crc.feed (Crc.crc c l) x := by rw [Crc.crc_append]; rfl
theorem crc_take {c : Nat} {l : List Nat} {k x : Nat} (h : l[k]? = some x) : Crc.crc c (l.take (k + 1)) = Crc.feed (Crc.crc c (l.take k)) x := by
  rw [List.take_add_one, h, Option.toList_some, crc_snoc]
theorem shifts_succ (k c : Nat) : Crc.shifts (k + 1) c = Crc.shift (Crc.shifts k c) := by
  induction k generalizing c with
  | zero => rfl
  | succ k ih =>
    have e : Crc.shifts (k + 1 + 1) c = Crc.shifts (k + 1) (Crc.shift c) := rfl
    rw [e, ih]; rfl
theorem shifts_lt (k c : Nat) (h : c < 4294967296) : Crc.shifts k c < 4294967296 := by
  cases k with
  | zero => exact h
  | succ k => rw [shifts_succ]; exact Crc.shift_lt _

end Go.Proofs.YtphjbbbnbmafnabGreatDoor.G

namespace Go.Proofs.YtphjbbbnbmafnabGreatDoor.G
open Go.RowKit

/-- so many bits of a list, from a place on -/
def sub (l : List Bool) (a k : Nat) : List Bool := (List.range k).map fun i => l.getD (a + i) false
theorem sub_succ (l : List Bool) (a k : Nat) : sub l a (k + 1) = sub l a k ++ [l.getD (a + k) false] := by unfold sub; rw [List.range_succ]; simp
theorem sub_len (l : List Bool) (a k : Nat) : (sub l a k).length = k := by simp [sub]
/-- the first i bytes of page p -/
def pageB (l : List Bool) (p i : Nat) : List Nat := (List.range i).map fun k => numOf (sub l (2016 * p + 8 * k) 8)
theorem pageB_succ (l : List Bool) (p i : Nat) : pageB l p (i + 1) = pageB l p i ++ [numOf (sub l (2016 * p + 8 * i) 8)] := by unfold pageB; rw [List.range_succ]; simp
theorem pageB_len (l : List Bool) (p i : Nat) : (pageB l p i).length = i := by simp [pageB]
theorem byte_lt (l : List Bool) (a : Nat) : numOf (sub l a 8) < 256 := by
  have := numOf_lt (sub l a 8)
  rw [sub_len] at this
  exact this
theorem pageB_lt (l : List Bool) (p i x : Nat) (h : x ∈ pageB l p i) : x < 256 := by
  unfold pageB at h
  obtain ⟨k, _, rfl⟩ := List.mem_map.1 h
  exact byte_lt _ _
/-- a page and its sum -/
def whole (l : List Bool) (p : Nat) : List Nat := pageB l p 252 ++ Crc.be4 (Crc.sumOf p (pageB l p 252))
/-- the first n pages -/
def pagesB (l : List Bool) (n : Nat) : List Nat := (List.range n).flatMap (whole l)
theorem pagesB_succ (l : List Bool) (n : Nat) : pagesB l (n + 1) = pagesB l n ++ whole l n := by unfold pagesB; rw [List.range_succ]; simp
theorem pagesB_len (l : List Bool) (n : Nat) : (pagesB l n).length = 256 * n := by
  induction n with
  | zero => rfl
  | succ n ih => rw [pagesB_succ, List.length_append, ih]; unfold whole; rw [List.length_append, pageB_len]; simp [Crc.be4]; omega
theorem whole_lt (l : List Bool) (p x : Nat) (h : x ∈ whole l p) : x < 256 := by
  unfold whole at h
  rcases List.mem_append.1 h with h | h
  · exact pageB_lt _ _ _ _ h
  · simp [Crc.be4] at h; omega
theorem pagesB_lt (l : List Bool) (n x : Nat) (h : x ∈ pagesB l n) : x < 256 := by
  unfold pagesB at h
  obtain ⟨p, _, hp⟩ := List.mem_flatMap.1 h
  exact whole_lt _ _ _ hp
theorem txt_at (l : List Bool) (i : Nat) (h : i < (txt l).size) : ((txt l)[i].toNat : Int) = 48 + ((l.getD i false).toNat : Int) := by
  have h' := h
  rw [txt_size] at h'
  have a := at_k (txt l) i h
  have e : (txt l).data.toList[i]? = some (if l[i] then 49 else 48) := by simp [txt, h']
  rw [e] at a
  simp only [Option.some.injEq] at a
  rw [← a, List.getD_eq_getElem?_getD, List.getElem?_eq_getElem h']
  cases l[i] <;> rfl
theorem own_below {w w' : World} {B : Nat} {e : TypeId} {v : Value} {n : Nat} {xs : List Value} (h : w.ownsRow B e 1 v n xs) (hB : Below w.heap.size w w') : w'.ownsRow B e 1 v n xs := by
  refine ⟨h.1, ?_⟩
  rcases h.2 with h0 | ⟨g, cap, cur, hv, hb, hg, r⟩
  · exact .inl h0
  · refine .inr ⟨g, cap, cur, hv, hb, ?_, r⟩
    rw [hB.block g (by
      rcases Nat.lt_or_ge g w.heap.size with h | h
      · exact h
      · rw [Array.getElem?_eq_none h] at hg; cases hg)]
    exact hg
/-- a row of bytes of one's own, from block B on -/
def OwnB (w : World) (wr : World) (v : Value) (l : List Nat) : Prop := wr.ownsRow w.heap.size 5 1 v l.length (valsB l) ∧ Below w.heap.size w wr
theorem valsB_append (l m : List Nat) : valsB (l ++ m) = valsB l ++ valsB m := by simp [valsB]
theorem ownB_more {w wr w2 : World} {v v' : Value} {l m : List Nat} {o : Obj} (h : OwnB w wr v l) (hown : w2.ownsRow w.heap.size 5 1 v' (l.length + m.length) (valsB l ++ valsB m)) (hg : (wr.alloc o).grownBy w2 v.ownBlock) : OwnB w w2 v' (l ++ m) := by
  refine ⟨by rw [valsB_append, List.length_append]; exact hown, ?_⟩
  exact (h.2.alloc h.2.size o).grown hg (by have := h.2.size; simp; omega) (fun j hj => (h.1.lt j hj).1)
theorem ownB_more' {w wr w2 : World} {v v' : Value} {l m : List Nat} (h : OwnB w wr v l) (hown : w2.ownsRow w.heap.size 5 1 v' (l.length + m.length) (valsB l ++ valsB m)) (hg : wr.grownBy w2 v.ownBlock) : OwnB w w2 v' (l ++ m) := by
  refine ⟨by rw [valsB_append, List.length_append]; exact hown, ?_⟩
  exact h.2.grown hg h.2.size (fun j hj => (h.1.lt j hj).1)
theorem row_own {w wr : World} {v : Value} {l : List Nat} (h : OwnB w wr v l) (hl : l ≠ []) : RowB wr v l := by
  rcases h.1.2 with ⟨_, h0⟩ | ⟨g, cap, cur, rfl, _⟩
  · exact absurd (List.length_eq_zero_iff.1 h0) hl
  · refine ⟨g, 0, cap, rfl, fun j x hj => ?_⟩
    have hjl : j < l.length := by
      rcases Nat.lt_or_ge j l.length with e | e
      · exact e
      · rw [List.getElem?_eq_none e] at hj; cases hj
    rw [Nat.zero_add, h.1.cellAt j (by omega)]
    unfold valsB
    rw [List.getElem?_map, hj]; rfl
theorem src_one (w : World) (x : Nat) (t : TypeId) (j : Nat) (u : Value) (hj : (valsB [x])[j]? = some u) : (w.alloc (.cells #[.int .u8 (x : Int)] t)).cell? ((⟨w.heap.size, 0, none⟩ : Addr).add j) = some u := by
  match j, hj with
  | 0, hj => simp [valsB] at hj; subst hj; simp [Addr.add]

theorem src_four (w : World) (a b c d : Value) (t : TypeId) (j : Nat) (u : Value) (hj : [a, b, c, d][j]? = some u) : (w.alloc (.cells #[a, b, c, d] t)).cell? ((⟨w.heap.size, 0, none⟩ : Addr).add j) = some u := by
  match j, hj with
  | 0, hj => simp at hj; subst hj; simp [Addr.add]
  | 1, hj => simp at hj; subst hj; simp [Addr.add]
  | 2, hj => simp at hj; subst hj; simp [Addr.add]
  | 3, hj => simp at hj; subst hj; simp [Addr.add]
  | j + 4, hj => simp at hj
theorem four_one (a b c d : Int) (u : Value) (hu : u ∈ [Value.int .u8 a, .int .u8 b, .int .u8 c, .int .u8 d]) : u.oneCell' = true := by
  simp at hu
  rcases hu with rfl | rfl | rfl | rfl <;> rfl
theorem be4_sum (S : Nat) (h : S < 4294967296) : [Value.int .u8 ((S : Int) / 16777216), .int .u8 ((S : Int) / 65536 % 256), .int .u8 ((S : Int) / 256 % 256), .int .u8 ((S : Int) % 256)] = valsB (Crc.be4 S) := by
  unfold valsB Crc.be4
  simp only [List.map_cons, List.map_nil]
  rw [show ((S / 16777216 % 256 : Nat) : Int) = (S : Int) / 16777216 by omega, show ((S / 65536 % 256 : Nat) : Int) = (S : Int) / 65536 % 256 by omega, show ((S / 256 % 256 : Nat) : Int) = (S : Int) / 256 % 256 by omega, show ((S % 256 : Nat) : Int) = (S : Int) % 256 by omega]

theorem conv_row {w wr : World} {v : Value} {l : List Nat} (h : OwnB w wr v l) (hl : 0 < l.length) (hb : ∀ x, x ∈ l → x < 256) :
    ∃ g off cap, v = .slice (some ⟨g, off, none⟩) l.length cap ∧ (convert 70 9 (.slice (some ⟨g, off, none⟩) l.length cap)).run Tryz.prog wr = .ok (.string ⟨(l.map UInt8.ofNat).toArray⟩) wr := by
  obtain ⟨g, off, cap, hv, hc⟩ := row_own h (by intro e; rw [e] at hl; exact absurd hl (by decide))
  refine ⟨g, off, cap, hv, ?_⟩
  have := run_convert_bytes_back (P := Tryz.prog) wr 70 9 5 ⟨g, off, none⟩ cap (l.map UInt8.ofNat) Tryz.underlying70 Tryz.underlying5 Tryz.underlying9 (fun j hj => by
    have hjl : j < l.length := by simpa using hj
    rw [addr_add, hc j l[j] (List.getElem?_eq_getElem hjl)]
    have hx := hb l[j] (List.getElem_mem hjl)
    simp only [List.getElem_map]
    congr 2
    have : (UInt8.ofNat l[j]).toNat = l[j] := by simp; omega
    rw [this])
  rw [List.length_map] at this
  exact this

end Go.Proofs.YtphjbbbnbmafnabGreatDoor.G

namespace Go.Proofs.YtphjbbbnbmafnabGreatDoor.G
open Go.RowKit Gm

/-- for each of the first n nodes as many ones as edges are from it, and a 0 -/
def srcs (l : List Gm.E3) : Nat → List Bool
  | 0 => []
  | u + 1 => srcs l u ++ (List.replicate (ah l (u + 1) - ah l u) true ++ [false])
theorem srcs_len (l : List Gm.E3) (h : ah l 0 = 0) (u : Nat) : (srcs l u).length = ah l u + u := by
  induction u with
  | zero => rw [h]; rfl
  | succ u ih =>
    have := ah_mono l (show u ≤ u + 1 by omega)
    show (srcs l u ++ _).length = _
    rw [List.length_append, ih]
    simp
    omega
/-- numbers in so many bits each, one behind the other -/
def nums (k : Nat) (l : List Nat) : List Bool := l.flatMap (digs k)
theorem nums_len (k : Nat) (l : List Nat) : (nums k l).length = k * l.length := by
  induction l with
  | nil => rfl
  | cons a l ih => unfold nums at *; rw [List.flatMap_cons, List.length_append, ih, digs_len, List.length_cons, Nat.mul_add]; omega
theorem nums_snoc (k : Nat) (l : List Nat) (a : Nat) : nums k (l ++ [a]) = nums k l ++ digs k a := by unfold nums; simp
def labs (l : List Gm.E3) : List Nat := l.map fun e => e.2.1.toNat
def tos (l : List Gm.E3) : List Nat := l.map fun e => e.2.2.toNat
/-- a graph as bits; its edges are in order -/
def gbits (n s : Nat) (l : List Gm.E3) : List Bool :=
  digs 14 n ++ digs 5 s ++ digs 15 l.length ++ srcs l n ++ nums (wid (s - 1)) (labs l) ++ nums (wid (n - 1)) (tos l)
theorem gbits_len (n s : Nat) (l : List Gm.E3) (h0 : ah l 0 = 0) (hn : ah l n = l.length) : (gbits n s l).length = 34 + n + l.length + wid (s - 1) * l.length + wid (n - 1) * l.length := by
  unfold gbits
  simp only [List.length_append, digs_len, nums_len, srcs_len l h0, hn, labs, tos, List.length_map]
  omega
/-- how many pages so many bits take -/
def npages (k : Nat) : Nat := (k + 2015) / 2016
/-- bytes as a string -/
def str (l : List Nat) : ByteArray := ⟨(l.map UInt8.ofNat).toArray⟩
theorem str_size (l : List Nat) : (str l).size = l.length := by simp [str, ByteArray.size]
/-- bits as pages: 0 behind the end -/
def image (l : List Bool) : ByteArray := str (pagesB l (npages l.length))
theorem image_size (l : List Bool) : (image l).size = 256 * npages l.length := by
  unfold image; rw [str_size, pagesB_len]
/-- what Build gives -/
def built (n s : Nat) (l : List Gm.E3) : ByteArray := image (gbits n s (ordE l))
/-- 0 behind the end changes no page -/
theorem sub_pad (l m : List Bool) (a k : Nat) (h : ∀ i, l.getD i false = m.getD i false) : sub l a k = sub m a k := by
  unfold sub
  exact List.map_congr_left (fun i _ => h _)
theorem pagesB_pad (l m : List Bool) (n : Nat) (h : ∀ i, l.getD i false = m.getD i false) : pagesB l n = pagesB m n := by
  have hp : ∀ p i, pageB l p i = pageB m p i := fun p i => by
    unfold pageB
    exact List.map_congr_left (fun k _ => by rw [sub_pad l m _ _ h])
  have hw : ∀ p, whole l p = whole m p := fun p => by unfold whole; rw [hp]
  unfold pagesB
  rw [show whole l = whole m from funext hw]
theorem pad_getD (l : List Bool) (k i : Nat) : (l ++ List.replicate k false).getD i false = l.getD i false := by
  simp only [List.getD_eq_getElem?_getD]
  by_cases h : i < l.length
  · rw [List.getElem?_append_left h]
  · rw [List.getElem?_append_right (by omega), List.getElem?_eq_none (by omega : l.length ≤ i), List.getElem?_replicate]
    split <;> rfl
end Go.Proofs.YtphjbbbnbmafnabGreatDoor.G
