/-
  The program's sum of a page (pages.highestFirst, addToSum, sumOf): it is the sum that the text Crc speaks of; nothing that was there is written.
-/
import Derived.Test.YtphjbbbnbmafnabGreatDoorRefPages
import Derived.Deep.WholeRow
import Derived.Laws.CopyRow
namespace Go.Proofs.YtphjbbbnbmafnabGreatDoor.G
open Go.RowKit

theorem u32_xor_nat (a b : Nat) (ha : a < 4294967296) (hb : b < 4294967296) : bits .xor .u32 (a : Int) (b : Int) = ((a ^^^ b : Nat) : Int) := by
  have hx : a ^^^ b < 2 ^ 32 := Nat.xor_lt_two_pow (by omega) (by omega)
  show IntKind.u32.wrap ((BitVec.ofInt 32 (a : Int) ^^^ BitVec.ofInt 32 (b : Int)).toNat : Int) = _
  rw [BitVec.toNat_xor]
  have e1 : (BitVec.ofInt 32 (a : Int)).toNat = a := by simp; omega
  have e2 : (BitVec.ofInt 32 (b : Int)).toNat = b := by simp; omega
  rw [e1, e2, IntKind.wrap_u32]
  omega
theorem Tryz.info4 : (Tryz.prog.info? 139).map (·.size) = some 4 := by kernel_rfl
set_option maxHeartbeats 1000000 in
theorem hf_any (n : Nat) (h : n < 4294967296) (w : World) :
    Calls Tryz.prog 64 #[.int .u32 (n : Int)] w fun e w' => e = .returned (.agg (valsB (Crc.be4 n)).toArray) ∧ Below w.heap.size w w' := by
  have HV : Hid _ := be4_sum n h
  go_enter Tryz.func64, Tryz.ntmps64
  go_wp2
  refine bodyPost_ret (results_cell_row rfl _ _ w.heap.size 139 _ (0, 0) _ rfl (heap_alloc_new _ _) Tryz.underlying139 rfl Tryz.info4) rfl ?_
  exact ⟨ret1 (by rw [← HV.out]), below1 _ _⟩
set_option maxHeartbeats 4000000 in
set_option maxRecDepth 100000 in
theorem ats_any (c0 : Nat) (l : List Nat) (v : Value) (w : World) (hc0 : c0 < 4294967296) (hlen2 : l.length ≤ 1000) (hrow : RowB w v l) (hb : ∀ x ∈ l, x < 256) :
    Calls Tryz.prog 98 #[.int .u32 (c0 : Int), v] w fun e w' => e = .returned (.int .u32 (Crc.crc c0 l : Int)) ∧ w' = w := by
  obtain ⟨g, off, cap, rfl, hc⟩ := hrow
  have HC : Hid _ := hc
  have HB : Hid _ := hb
  clear hc hb
  go_enter Tryz.func98, Tryz.ntmps98
  go_wp2
  go_loop [0, 10] (fun sc si => ∃ k c : Nat, k ≤ l.length ∧ si = .int .i64 (k : Int) ∧ sc = .int .u32 (c : Int) ∧ c < 4294967296 ∧ Hid (c = Crc.crc c0 (l.take k))) (fun _ si => l.length - (intOf si).toNat)
  case atStart => exact ⟨0, c0, Nat.zero_le _, rfl, rfl, hc0, (rfl : c0 = Crc.crc c0 (l.take 0))⟩
  case round =>
    obtain ⟨k, c, hk, rfl, rfl, hcl, HI⟩ := hrel
    by_cases hlt : k < l.length
    · obtain ⟨x, hx⟩ : ∃ x, l[k]? = some x := ⟨_, List.getElem?_eq_getElem hlt⟩
      have hxb := HB.out x (List.mem_of_getElem? hx)
      have hcell := HC.out k x hx
      have hT := crc_take (c := c0) hx
      rw [← HI.out] at hT
      have HT : Hid _ := hT
      have hxo := u32_xor_nat c (x * 16777216) (by omega) (by omega)
      have hxo2 : bits BinOp.xor IntKind.u32 (c : Int) ((x : Int) * 16777216) = ((c ^^^ (x * 16777216) : Nat) : Int) := by rw [← hxo]; congr 1
      have hx32 : c ^^^ (x * 16777216) < 4294967296 := Nat.xor_lt_two_pow (n := 32) hcl (by omega)
      clear hx hT hxo HI
      generalize hy : c ^^^ (x * 16777216) = y at hxo2 hx32
      have HY : Hid (Crc.feed c x = Crc.shifts 8 y) := (by rw [← hy]; rfl : _ = _)
      clear hy
      go_wp2
      go_loop [0, 19] (fun sc sj => ∃ j d : Nat, j ≤ 8 ∧ sj = .int .i64 (j : Int) ∧ sc = .int .u32 (d : Int) ∧ d < 4294967296 ∧ Hid (d = Crc.shifts j y)) (fun _ sj => 8 - (intOf sj).toNat)
      case atStart => exact ⟨0, y, Nat.zero_le _, rfl, rfl, hx32, (rfl : y = Crc.shifts 0 y)⟩
      case round =>
        obtain ⟨j, d, hj, rfl, rfl, hd, HD⟩ := hrel
        by_cases hlt8 : j < 8
        · have hS := shifts_succ j y
          rw [← HD.out] at hS
          have hSl := shifts_lt (j + 1) y hx32
          by_cases hbig : 2147483648 ≤ d
          · have hf1 : (d : Int) / 2147483648 = 1 := by omega
            have hm1 : 2 * (d : Int) % 4294967296 = ((2 * d - 4294967296 : Nat) : Int) := by omega
            have hm2 : (d : Int) * 2 % 4294967296 = ((2 * d - 4294967296 : Nat) : Int) := by omega
            have hq := u32_xor_nat (2 * d - 4294967296) 79764919 (by omega) (by decide)
            rw [shift_big hbig hd] at hS
            have HS : Hid ((2 * d - 4294967296 ^^^ 79764919) = Crc.shifts (j + 1) y) := hS.symm
            have hl2 : (2 * d - 4294967296 ^^^ 79764919) < 4294967296 := by rw [HS.out]; exact hSl
            clear hS hSl
            generalize 2 * d - 4294967296 = z at hm1 hm2 hq HS hl2
            have HQ : Hid (bits BinOp.xor IntKind.u32 (z : Int) 79764919 = ((z ^^^ 79764919 : Nat) : Int)) := hq
            clear hq
            go_wp2
            go_round
            case rel => exact ⟨j + 1, z ^^^ 79764919, by omega, by go_num, by rw [HQ.out], hl2, HS.out⟩
            case measure => simp [intOf]; omega
          · have hf1 : (d : Int) / 2147483648 = 0 := by omega
            have hm2 : (d : Int) * 2 % 4294967296 = 2 * (d : Int) := by omega
            rw [shift_small (by omega)] at hS
            have HS : Hid (2 * d = Crc.shifts (j + 1) y) := hS.symm
            have HQ : Hid (bits BinOp.xor IntKind.u32 ((d : Int) * 2) 0 = ((2 * d : Nat) : Int)) := (by
              have h := u32_xor_nat (2 * d) 0 (by omega) (by decide)
              rw [Nat.xor_zero] at h
              rw [← h]; congr 1; omega : _ = _)
            clear hS hSl
            go_wp2
            go_round
            case rel => exact ⟨j + 1, 2 * d, by omega, by go_num, by rw [HQ.out], by omega, HS.out⟩
            case measure => simp [intOf]; omega
        · obtain rfl : j = 8 := by omega
          have HE : Hid (d = Crc.crc c0 (l.take (k + 1))) := (by rw [HD.out, HT.out, HY.out] : _ = _)
          clear HD
          go_wp2
          go_round
          case rel => exact ⟨k + 1, d, by omega, by go_num, rfl, hd, HE.out⟩
          case measure => simp [intOf]; omega
    · obtain rfl : k = l.length := by omega
      have hE := HI.out
      rw [List.take_length] at hE
      have HE : Hid (c = Crc.crc c0 l) := hE
      clear hE HI
      go_wp2
      go_ret
      exact ⟨ret1 (by rw [← HE.out]; rfl), rfl⟩
theorem old_alloc {w : World} {o : Obj} {i : Nat} (h : i < w.heap.size) : (w.alloc o).heap[i]? = w.heap[i]? := by
  show (w.heap.push o)[i]? = w.heap[i]?
  rw [Array.getElem?_push, if_neg (Nat.ne_of_lt h)]
theorem vals_len (l : List Nat) : (valsB l).length = l.length := by simp [valsB]
/-- a row of bytes that is a block of its own -/
theorem row_block {w : World} {g : Nat} {t : TypeId} {fr : Nat × Nat} {l : List Nat} (h : w.heap[g]? = some (.cells (valsB l).toArray t fr)) (cap : Nat) : RowB w (.slice (some ⟨g, 0, none⟩) l.length cap) l := by
  refine ⟨g, 0, cap, rfl, fun j x hj => ?_⟩
  rw [cell_of_row w g (0 + j) (valsB l).toArray t fr h]
  simp [valsB, hj]
set_option maxHeartbeats 1000000 in
set_option maxRecDepth 100000 in
theorem psum_any (p : Nat) (l : List Nat) (hp : p ≤ 1000) (hl : l.length = 252) (hb : ∀ x ∈ l, x < 256) (w : World) :
    Calls Tryz.prog 65 #[.int .i64 (p : Int), .agg (valsB l).toArray] w fun e w' => e = .returned (.int .u32 (Crc.sumOf p l : Int)) ∧ Below w.heap.size w w' := by
  have hz := vals_len l
  go_enter Tryz.func65, Tryz.ntmps65
  go_wp2_with fail
  refine (hf_any p (by omega) _).mono ?_
  rintro e w1 ⟨rfl, hB1⟩
  obtain ⟨b0, b1, b2, b3, hbe⟩ : ∃ b0 b1 b2 b3 : Nat, Crc.be4 p = [b0, b1, b2, b3] := ⟨_, _, _, _, rfl⟩
  have hv4 : (valsB (Crc.be4 p)).toArray = #[.int .u8 (b0 : Int), .int .u8 (b1 : Int), .int .u8 (b2 : Int), .int .u8 (b3 : Int)] := by rw [hbe]; rfl
  rw [hv4]
  have hh1 : w1.heap[w.heap.size]? = some (.cells (valsB l).toArray 78 (0, 0)) := by
    rw [hB1.block w.heap.size (by simp)]; exact heap_alloc_new _ _
  have hA := ats_any 4294967295 (Crc.be4 p) (.slice (some ⟨w1.heap.size, 0, none⟩) 4 4) (w1.alloc (.cells #[.int .u8 (b0 : Int), .int .u8 (b1 : Int), .int .u8 (b2 : Int), .int .u8 (b3 : Int)] 139)) (by decide) (by simp [Crc.be4]) (by
    rw [← hv4]
    exact row_block (l := Crc.be4 p) (heap_alloc_new _ _) 4) (fun x hx => by simp [Crc.be4] at hx; omega)
  have HA : Hid (Calls Tryz.prog 98 _ _ _) := hA
  have hl1 := Crc.crc_lt (Crc.be4 p) 4294967295 (by decide)
  have HC2 : Hid _ := Crc.crc_append 4294967295 (Crc.be4 p) l
  have HB0 : Hid (Below w.heap.size w w1) := chain (below1 _ _) hB1
  generalize hc : Crc.crc 4294967295 (Crc.be4 p) = c at hA HA hl1 HC2
  have hA2 := ats_any c l (.slice (some ⟨w.heap.size, 0, none⟩) l.length 252) (w1.alloc (.cells #[.int .u8 (b0 : Int), .int .u8 (b1 : Int), .int .u8 (b2 : Int), .int .u8 (b3 : Int)] 139)) hl1 (by omega) (row_block (by
    rw [old_alloc (by have := hB1.size; simp at this; omega)]; exact hh1) 252) hb
  rw [hl] at hA2
  have HA2 : Hid (Calls Tryz.prog 98 _ _ _) := hA2
  have hl2 := Crc.crc_lt l c hl1
  clear hA hA2 hbe hv4 hc hB1 hb hh1
  go_wp2_with fail
  refine (Calls.mono HA.out ?_)
  rintro e w2 ⟨rfl, hw2⟩
  rw [hw2]
  clear hw2 w2
  go_wp2_with fail
  refine (Calls.mono HA2.out ?_)
  rintro e w2 ⟨rfl, hw2⟩
  rw [hw2]
  clear hw2 w2
  go_wp2
  have HX : Hid (bits BinOp.xor IntKind.u32 IntKind.u32.max (Crc.crc c l : Int) = (Crc.sumOf p l : Int)) := (by
    have h := u32_xor_nat 4294967295 (Crc.crc c l) (by decide) hl2
    rw [show Crc.sumOf p l = 4294967295 ^^^ Crc.crc c l from by unfold Crc.sumOf; rw [HC2.out, Nat.xor_comm]]
    exact h : _ = _)
  go_ret
  exact ⟨ret1 (congrArg (Value.int .u32) HX.out), HB0.out.alloc HB0.out.size _⟩
end Go.Proofs.YtphjbbbnbmafnabGreatDoor.G
