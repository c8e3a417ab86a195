/-
  The document's own sum of a page (trellisref.sum) over a row of bytes that lies in memory: it is the sum that the text Crc speaks of; nothing that was there is written.
-/
import Derived.Test.YtphjbbbnbmafnaaRefG
import Derived.OwnWalk
namespace Go.Proofs.Ytphjbbbnbmafnaa.G
open Go.RowKit

theorem i64_xor_nat (a b : Nat) (ha : a < 9223372036854775808) (hb : b < 9223372036854775808) : bits .xor .i64 (a : Int) (b : Int) = ((a ^^^ b : Nat) : Int) := by
  have hx : a ^^^ b < 2 ^ 63 := Nat.xor_lt_two_pow (by omega) (by omega)
  show IntKind.i64.wrap ((BitVec.ofInt 64 (a : Int) ^^^ BitVec.ofInt 64 (b : Int)).toNat : Int) = _
  rw [BitVec.toNat_xor]
  have e1 : (BitVec.ofInt 64 (a : Int)).toNat = a := by simp; omega
  have e2 : (BitVec.ofInt 64 (b : Int)).toNat = b := by simp; omega
  rw [e1, e2, IntKind.wrap_i64]
  omega
theorem shift_big {c : Nat} (h1 : 2147483648 ≤ c) (h2 : c < 4294967296) : Crc.shift c = (2 * c - 4294967296) ^^^ Crc.poly := by
  unfold Crc.shift
  have hb : c.testBit 31 = true := by
    rw [Nat.testBit_eq_decide_div_mod_eq]
    have : c / 2 ^ 31 = 1 := by omega
    rw [this]; rfl
  rw [hb, if_pos rfl, show 2 * c % 4294967296 = 2 * c - 4294967296 by omega]
theorem shift_small {c : Nat} (h : c < 2147483648) : Crc.shift c = 2 * c := by
  unfold Crc.shift
  have hb : c.testBit 31 = false := Nat.testBit_lt_two_pow (by omega)
  rw [hb, if_neg (by decide), Nat.xor_zero]; omega
/-- a row of bytes in memory -/
def RowB (w : World) (v : Value) (l : List Nat) : Prop := ∃ g off cap, v = .slice (some ⟨g, off, none⟩) l.length cap ∧ ∀ (j x : Nat), l[j]? = some x → w.cell? ⟨g, off + j, none⟩ = some (.int .u8 (x : Int))
def valsB (l : List Nat) : List Value := l.map fun (x : Nat) => Value.int .u8 (x : Int)
theorem Try.infoB : (Try.prog.info? 5).map (fun i => (i.zero, i.size, i.bytes)) = some (some (.int .u8 0), 1, 1) := by kernel_rfl
theorem addr_add (b off i : Nat) : (⟨b, off, none⟩ : Addr).add i = ⟨b, off + i, none⟩ := by
  by_cases e : i = 0
  · subst e; simp [Addr.add]
  · simp [Addr.add, e]
/-- the four bytes of the page's number, as the code reckons them -/
theorem four_own (w : World) (a b c d : Value) (t : TypeId) : (w.alloc (.cells #[a, b, c, d] t)).ownsRow w.heap.size t 1 (.slice (some ⟨w.heap.size, 0, none⟩) 4 4) 4 [a, b, c, d] := by
  refine ⟨rfl, .inr ⟨w.heap.size, 4, #[a, b, c, d], rfl, Nat.le_refl _, ?_, Nat.le_refl _, by decide, rfl, rfl⟩⟩
  show (w.heap.push _)[w.heap.size]? = _
  simp

theorem vals_cell {w w' : World} {g off : Nat} {l : List Nat} (hc : ∀ (j x : Nat), l[j]? = some x → w.cell? ⟨g, off + j, none⟩ = some (.int .u8 (x : Int))) (hB : Below w.heap.size w w') (j : Nat) (u : Value) (h : (valsB l)[j]? = some u) : w'.cell? ((⟨g, off, none⟩ : Addr).add j) = some u := by
  unfold valsB at h
  rw [List.getElem?_map] at h
  cases hx : l[j]? with
  | none => rw [hx] at h; cases h
  | some x =>
    rw [hx] at h
    simp at h
    rw [addr_add, ← h]
    exact cell_kept hB _ _ (hc j x hx)
theorem vals_one (l : List Nat) (u : Value) (h : u ∈ valsB l) : u.oneCell' = true := by
  unfold valsB at h
  obtain ⟨x, _, rfl⟩ := List.mem_map.1 h
  rfl
theorem le_alloc {B : Nat} {w : World} {o : Obj} (h : B ≤ w.heap.size) : B ≤ (w.alloc o).heap.size := by simp; omega
theorem be4_vals (p : Nat) (hp : p ≤ 1000) : [Value.int .u8 ((p : Int) / 16777216), .int .u8 ((p : Int) / 65536), .int .u8 ((p : Int) / 256), .int .u8 ((p : Int) % 256)] = valsB (Crc.be4 p) := by
  unfold valsB Crc.be4
  simp only [List.map_cons, List.map_nil]
  rw [show ((p / 16777216 % 256 : Nat) : Int) = (p : Int) / 16777216 by omega, show ((p / 65536 % 256 : Nat) : Int) = (p : Int) / 65536 by omega, show ((p / 256 % 256 : Nat) : Int) = (p : Int) / 256 by omega, show ((p % 256 : Nat) : Int) = (p : Int) % 256 by omega]
theorem crc_snoc (c : Nat) (l : List Nat) (x : Nat) : Crc.crc c (l ++ [x]) = Crc.feed (Crc.crc c l) x := by rw [Crc.crc_append]; rfl
theorem crc_take {c : Nat} {l : List Nat} {k x : Nat} (h : l[k]? = some x) : Crc.crc c (l.take (k + 1)) = Crc.feed (Crc.crc c (l.take k)) x := by
  rw [List.take_add_one, h, Option.toList_some, crc_snoc]
theorem shifts_succ (k c : Nat) : Crc.shifts (k + 1) c = Crc.shift (Crc.shifts k c) := by
  induction k generalizing c with
  | zero => rfl
  | succ k ih =>
    have e : Crc.shifts (k + 1 + 1) c = Crc.shifts (k + 1) (Crc.shift c) := rfl
    rw [e, ih]; rfl
theorem shifts_lt (k c : Nat) (h : c < 4294967296) : Crc.shifts k c < 4294967296 := by
  cases k with
  | zero => exact h
  | succ k => rw [shifts_succ]; exact Crc.shift_lt _

set_option maxHeartbeats 4000000 in
set_option maxRecDepth 100000 in
theorem sum_any (p : Nat) (page : List Nat) (v : Value) (w : World) (hp : p ≤ 1000) (hlen2 : page.length ≤ 1000) (hrow : RowB w v page) (hb : ∀ x ∈ page, x < 256) :
    Calls Try.prog 112 #[.int .i64 (p : Int), v] w fun e w' => e = .returned (.int .i64 (Crc.sumOf p page : Int)) ∧ Below w.heap.size w w' := by
  obtain ⟨g, off, cap, rfl, hc⟩ := hrow
  have HC : Hid _ := hc
  have HB : Hid (∀ x ∈ Crc.be4 p ++ page, x < 256) := (fun x hx => by
    rcases List.mem_append.1 hx with h | h
    · simp [Crc.be4] at h; omega
    · exact hb x h : ∀ x ∈ Crc.be4 p ++ page, x < 256)
  clear hc hb
  obtain ⟨i0, hi, hz0, hz1, hz2⟩ := info_parts Try.infoB
  go_enter Try.func112, Try.ntmps112
  go_wp2_with (at_builtin; refine wpList_append_own _ rfl _ _ 48 rfl w.heap.size 5 i0 (.int .u8 0) 1 1 Try.underlying48 hi hz0 hz1 hz2 rfl (by decide) _ _ _ rfl (four_own w _ _ _ _ _) ⟨g, off, none⟩ page.length cap (valsB page) rfl (by simp [valsB]) (vals_cell HC.out (below1 _ _)) (vals_one page) (by unfold maxLen; omega) (by omega) (le_alloc (Nat.le_refl _)) ?_; intro v' w2 hown hgrow hnil)
  have hbel : Below w.heap.size w w2 := (below1 w _).grown hgrow (le_alloc (Nat.le_refl _)) (fun j hj => by cases hj; exact Nat.le_refl _)
  rw [be4_vals p hp, show valsB (Crc.be4 p) ++ valsB page = valsB (Crc.be4 p ++ page) by simp [valsB]] at hown
  have hll : (Crc.be4 p ++ page).length = 4 + page.length := by simp [Crc.be4]; omega
  rcases hown.2 with ⟨_, h0⟩ | ⟨g2, cap2, cur, rfl, _⟩
  · omega
  have HW : Hid (∀ (k x : Nat), (Crc.be4 p ++ page)[k]? = some x → w2.cell? ⟨g2, k, none⟩ = some (.int .u8 (x : Int))) := (fun k x hx => by
    have hk : k < (Crc.be4 p ++ page).length := by
      rcases Nat.lt_or_ge k (Crc.be4 p ++ page).length with e | e
      · exact e
      · rw [List.getElem?_eq_none e] at hx; cases hx
    rw [hown.cellAt k (by omega)]
    unfold valsB
    rw [List.getElem?_map, hx]; rfl : ∀ (k x : Nat), (Crc.be4 p ++ page)[k]? = some x → w2.cell? ⟨g2, k, none⟩ = some (.int .u8 (x : Int)))
  have HBe : Hid _ := hbel
  have HLL : Hid _ := hll
  clear hown hgrow hnil hbel hll HC
  go_wp2
  go_loop [5, 7] (fun sc si => ∃ k c : Nat, k ≤ 4 + page.length ∧ si = .int .i64 (k : Int) ∧ sc = .int .i64 (c : Int) ∧ c < 4294967296 ∧ Hid (c = Crc.crc 4294967295 ((Crc.be4 p ++ page).take k))) (fun _ si => 4 + page.length - (intOf si).toNat)
  case atStart => exact ⟨0, 4294967295, Nat.zero_le _, rfl, rfl, by decide, (rfl : 4294967295 = Crc.crc 4294967295 ((Crc.be4 p ++ page).take 0))⟩
  case round =>
    obtain ⟨k, c, hk, rfl, rfl, hcl, HI⟩ := hrel
    by_cases hlt : k < 4 + page.length
    · obtain ⟨x, hx⟩ : ∃ x, (Crc.be4 p ++ page)[k]? = some x := ⟨_, List.getElem?_eq_getElem (by rw [HLL.out]; exact hlt)⟩
      have hxb := HB.out x (List.mem_of_getElem? hx)
      have hcell := HW.out k x hx
      have hT := crc_take (c := 4294967295) hx
      rw [← HI.out] at hT
      have HT : Hid _ := hT
      have hkI : (k : Int) < ((4 + page.length : Nat) : Int) := by omega
      have hkI2 : (k : Int) < 4 + (page.length : Int) := by omega
      have hxo := i64_xor_nat c (x * 16777216) (by omega) (by omega)
      have hxo2 : bits BinOp.xor IntKind.i64 (c : Int) ((x : Int) * 16777216) = ((c ^^^ (x * 16777216) : Nat) : Int) := by rw [← hxo]; congr 1
      have hx32 : c ^^^ (x * 16777216) < 4294967296 := Nat.xor_lt_two_pow (n := 32) hcl (by omega)
      clear hx hT hxo HI
      generalize hy : c ^^^ (x * 16777216) = y at hxo2 hx32
      have HY : Hid (Crc.feed c x = Crc.shifts 8 y) := (by rw [← hy]; rfl : _ = _)
      clear hy
      go_wp2
      go_loop [5, 8] (fun sc sj => ∃ j d : Nat, j ≤ 8 ∧ sj = .int .i64 (j : Int) ∧ sc = .int .i64 (d : Int) ∧ d < 4294967296 ∧ Hid (d = Crc.shifts j y)) (fun _ sj => 8 - (intOf sj).toNat)
      case atStart => exact ⟨0, y, Nat.zero_le _, rfl, rfl, hx32, (rfl : y = Crc.shifts 0 y)⟩
      case round =>
        obtain ⟨j, d, hj, rfl, rfl, hd, HD⟩ := hrel
        by_cases hlt8 : j < 8
        · have hS := shifts_succ j y
          rw [← HD.out] at hS
          have hSl := shifts_lt (j + 1) y hx32
          by_cases hbig : 2147483648 ≤ d
          · have hbI : (4294967296 : Int) ≤ 2 * (d : Int) := by omega
            have hq := i64_xor_nat (2 * d - 4294967296) 79764919 (by omega) (by decide)
            have hq2 : bits BinOp.xor IntKind.i64 (2 * (d : Int) - 4294967296) 79764919 = ((2 * d - 4294967296 ^^^ 79764919 : Nat) : Int) := by rw [← hq]; congr 1; omega
            rw [shift_big hbig hd] at hS
            have HS : Hid ((2 * d - 4294967296 ^^^ 79764919) = Crc.shifts (j + 1) y) := hS.symm
            have hl2 : (2 * d - 4294967296 ^^^ 79764919) < 4294967296 := by rw [HS.out]; exact hSl
            clear hS hq hSl
            go_wp2
            go_round
            case rel => exact ⟨j + 1, 2 * d - 4294967296 ^^^ 79764919, by omega, by go_num, rfl, hl2, HS.out⟩
            case measure => simp [intOf]; omega
          · have hbI : ¬ (4294967296 : Int) ≤ 2 * (d : Int) := by omega
            rw [shift_small (by omega)] at hS
            have HS : Hid (2 * d = Crc.shifts (j + 1) y) := hS.symm
            clear hS hSl
            go_wp2
            go_round
            case rel => exact ⟨j + 1, 2 * d, by omega, by go_num, by go_num, by omega, HS.out⟩
            case measure => simp [intOf]; omega
        · obtain rfl : j = 8 := by omega
          have HE : Hid (d = Crc.crc 4294967295 ((Crc.be4 p ++ page).take (k + 1))) := (by rw [HD.out, HT.out, HY.out] : _ = _)
          clear HD
          go_wp2
          go_round
          case rel => exact ⟨k + 1, d, by omega, by go_num, rfl, hd, HE.out⟩
          case measure => simp [intOf]; omega
    · obtain rfl : k = 4 + page.length := by omega
      have hE := HI.out
      rw [← HLL.out, List.take_length] at hE
      have hq := i64_xor_nat c 4294967295 (by omega) (by decide)
      have HE : Hid ((c ^^^ 4294967295) = Crc.sumOf p page) := (by rw [hE]; rfl : _ = _)
      clear hE HI
      go_wp2
      go_ret
      exact ⟨ret1 (by rw [← HE.out]; first | rfl | exact congrArg (Value.int IntKind.i64) hq), HBe.out⟩
end Go.Proofs.Ytphjbbbnbmafnaa.G
