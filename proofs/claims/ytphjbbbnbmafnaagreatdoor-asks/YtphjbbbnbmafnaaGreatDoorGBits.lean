/-
  The document's own sum of a page (trellisref.sum) over a row of bytes that lies in memory: it is the sum that the text Crc speaks of; nothing that was there is written.
  The document's own pages (trellisref.pages): bits, told as a text of 0 and 1, as bytes: pages of 252 bytes, each with its sum behind it; nothing that was there is written. The text is at least one page long and at most a thousand.
  A graph as bits and as pages, without the program: the numbers, the ones and zeros of where edges are from, the labels, where they go to. No condition.
-/
import Derived.Test.YtphjbbbnbmafnaaGreatDoorRefG
import Derived.OwnWalk
import Derived.Test.YtphjbbbnbmafnaaGreatDoorGMath
namespace Go.Proofs.YtphjbbbnbmafnaaGreatDoor.G
open Go.RowKit

theorem i64_xor_nat (a b : Nat) (ha : a < 9223372036854775808) (hb : b < 9223372036854775808) : bits .xor .i64 (a : Int) (b : Int) = ((a ^^^ b : Nat) : Int) := by
  have hx : a ^^^ b < 2 ^ 63 := Nat.xor_lt_two_pow (by omega) (by omega)
  show IntKind.i64.wrap ((BitVec.ofInt 64 (a : Int) ^^^ BitVec.ofInt 64 (b : Int)).toNat : Int) = _
  rw [BitVec.toNat_xor]
  have e1 : (BitVec.ofInt 64 (a : Int)).toNat = a := by simp; omega
  have e2 : (BitVec.ofInt 64 (b : Int)).toNat = b := by simp; omega
  rw [e1, e2, IntKind.wrap_i64]
  omega
theorem shift_big {c : Nat} (h1 : 2147483648 ≤ c) (h2 : c < 4294967296) : Crc.shift c = (2 * c - 4294967296) ^^^ Crc.poly := by
  unfold Crc.shift
  have hb : c.testBit 31 = true := by
    rw [Nat.testBit_eq_decide_div_mod_eq]
    have : c / 2 ^ 31 = 1 := by omega
    rw [this]; rfl
  rw [hb, if_pos rfl, show 2 * c % 4294967296 = 2 * c - 4294967296 by omega]
theorem shift_small {c : Nat} (h : c < 2147483648) : Crc.shift c = 2 * c := by
  unfold Crc.shift
  have hb : c.testBit 31 = false := Nat.testBit_lt_two_pow (by omega)
  rw [hb, if_neg (by decide), Nat.xor_zero]; omega
/-- a row of bytes in memory -/
def RowB (w : World) (v : Value) (l : List Nat) : Prop := ∃ g off cap, v = .slice (some ⟨g, off, none⟩) l.length cap ∧ ∀ (j x : Nat), l[j]? = some x → w.cell? ⟨g, off + j, none⟩ = some (.int .u8 (x : Int))
def valsB (l : List Nat) : List Value := l.map fun (x : Nat) => Value.int .u8 (x : Int)
theorem Tryz.infoB : (Tryz.prog.info? 5).map (fun i => (i.zero, i.size, i.bytes)) = some (some (.int .u8 0), 1, 1) := by kernel_rfl
theorem addr_add (b off i : Nat) : (⟨b, off, none⟩ : Addr).add i = ⟨b, off + i, none⟩ := by
  by_cases e : i = 0
  · subst e; simp [Addr.add]
  · simp [Addr.add, e]
/-- the four bytes of the page's number, as the code reckons them -/
theorem four_own (w : World) (a b c d : Value) (t : TypeId) : (w.alloc (.cells #[a, b, c, d] t)).ownsRow w.heap.size t 1 (.slice (some ⟨w.heap.size, 0, none⟩) 4 4) 4 [a, b, c, d] := by
  refine ⟨rfl, .inr ⟨w.heap.size, 4, #[a, b, c, d], rfl, Nat.le_refl _, ?_, Nat.le_refl _, by decide, rfl, rfl⟩⟩
  show (w.heap.push _)[w.heap.size]? = _
  simp

theorem vals_cell {w w' : World} {g off : Nat} {l : List Nat} (hc : ∀ (j x : Nat), l[j]? = some x → w.cell? ⟨g, off + j, none⟩ = some (.int .u8 (x : Int))) (hB : Below w.heap.size w w') (j : Nat) (u : Value) (h : (valsB l)[j]? = some u) : w'.cell? ((⟨g, off, none⟩ : Addr).add j) = some u := by
  unfold valsB at h
  rw [List.getElem?_map] at h
  cases hx : l[j]? with
  | none => rw [hx] at h; cases h
  | some x =>
    rw [hx] at h
    simp at h
    rw [addr_add, ← h]
    exact cell_kept hB _ _ (hc j x hx)
theorem vals_one (l : List Nat) (u : Value) (h : u ∈ valsB l) : u.oneCell' = true := by
  unfold valsB at h
  obtain ⟨x, _, rfl⟩ := List.mem_map.1 h
  rfl
theorem le_alloc {B : Nat} {w : World} {o : Obj} (h : B ≤ w.heap.size) : B ≤ (w.alloc o).heap.size := by simp; omega
theorem be4_vals (p : Nat) (hp : p ≤ 1000) : [Value.int .u8 ((p : Int) / 16777216), .int .u8 ((p : Int) / 65536), .int .u8 ((p : Int) / 256), .int .u8 ((p : Int) % 256)] = valsB (Crc.be4 p) := by
  unfold valsB Crc.be4
  simp only [List.map_cons, List.map_nil]
  rw [show ((p / 16777216 % 256 : Nat) : Int) = (p : Int) / 16777216 by omega, show ((p / 65536 % 256 : Nat) : Int) = (p : Int) / 65536 by omega, show ((p / 256 % 256 : Nat) : Int) = (p : Int) / 256 by omega, show ((p % 256 : Nat) : Int) = (p : Int) % 256 by omega]
theorem crc_snoc (c : Nat) (l : List Nat) (x : Nat) : Crc.crc c (l ++ [x]) = Crc.feed (Crc.crc c l) x := by rw [Crc.crc_append]; rfl
theorem crc_take {c : Nat} {l : List Nat} {k x : Nat} (h : l[k]? = some x) : Crc.crc c (l.take (k + 1)) = Crc.feed (Crc.crc c (l.take k)) x := by
  rw [List.take_add_one, h, Option.toList_some, crc_snoc]
theorem shifts_succ (k c : Nat) : Crc.shifts (k + 1) c = Crc.shift (Crc.shifts k c) := by
  induction k generalizing c with
  | zero => rfl
  | succ k ih =>
    have e : Crc.shifts (k + 1 + 1) c = Crc.shifts (k + 1) (Crc.shift c) := rfl
    rw [e, ih]; rfl
theorem shifts_lt (k c : Nat) (h : c < 4294967296) : Crc.shifts k c < 4294967296 := by
  cases k with
  | zero => exact h
  | succ k => rw [shifts_succ]; exact Crc.shift_lt _

set_option maxHeartbeats 4000000 in
set_option maxRecDepth 100000 in
theorem sum_any (p : Nat) (page : List Nat) (v : Value) (w : World) (hp : p ≤ 1000) (hlen2 : page.length ≤ 1000) (hrow : RowB w v page) (hb : ∀ x ∈ page, x < 256) :
    Calls Tryz.prog 60 #[.int .i64 (p : Int), v] w fun e w' => e = .returned (.int .i64 (Crc.sumOf p page : Int)) ∧ Below w.heap.size w w' := by
  obtain ⟨g, off, cap, rfl, hc⟩ := hrow
  have HC : Hid _ := hc
  have HB : Hid (∀ x ∈ Crc.be4 p ++ page, x < 256) := (fun x hx => by
    rcases List.mem_append.1 hx with h | h
    · simp [Crc.be4] at h; omega
    · exact hb x h : ∀ x ∈ Crc.be4 p ++ page, x < 256)
  clear hc hb
  obtain ⟨i0, hi, hz0, hz1, hz2⟩ := info_parts Tryz.infoB
  go_enter Tryz.func60, Tryz.ntmps60
  go_wp2_with (at_builtin; refine wpList_append_own _ rfl _ _ 113 rfl w.heap.size 5 i0 (.int .u8 0) 1 1 Tryz.underlying113 hi hz0 hz1 hz2 rfl (by decide) _ _ _ rfl (four_own w _ _ _ _ _) ⟨g, off, none⟩ page.length cap (valsB page) rfl (by simp [valsB]) (vals_cell HC.out (below1 _ _)) (vals_one page) (by unfold maxLen; omega) (by omega) (le_alloc (Nat.le_refl _)) ?_; intro v' w2 hown hgrow hnil)
  have hbel : Below w.heap.size w w2 := (below1 w _).grown hgrow (le_alloc (Nat.le_refl _)) (fun j hj => by cases hj; exact Nat.le_refl _)
  rw [be4_vals p hp, show valsB (Crc.be4 p) ++ valsB page = valsB (Crc.be4 p ++ page) by simp [valsB]] at hown
  have hll : (Crc.be4 p ++ page).length = 4 + page.length := by simp [Crc.be4]; omega
  rcases hown.2 with ⟨_, h0⟩ | ⟨g2, cap2, cur, rfl, _⟩
  · omega
  have HW : Hid (∀ (k x : Nat), (Crc.be4 p ++ page)[k]? = some x → w2.cell? ⟨g2, k, none⟩ = some (.int .u8 (x : Int))) := (fun k x hx => by
    have hk : k < (Crc.be4 p ++ page).length := by
      rcases Nat.lt_or_ge k (Crc.be4 p ++ page).length with e | e
      · exact e
      · rw [List.getElem?_eq_none e] at hx; cases hx
    rw [hown.cellAt k (by omega)]
    unfold valsB
    rw [List.getElem?_map, hx]; rfl : ∀ (k x : Nat), (Crc.be4 p ++ page)[k]? = some x → w2.cell? ⟨g2, k, none⟩ = some (.int .u8 (x : Int)))
  have HBe : Hid _ := hbel
  have HLL : Hid _ := hll
  clear hown hgrow hnil hbel hll HC
  go_wp2
  go_loop [5, 7] (fun sc si => ∃ k c : Nat, k ≤ 4 + page.length ∧ si = .int .i64 (k : Int) ∧ sc = .int .i64 (c : Int) ∧ c < 4294967296 ∧ Hid (c = Crc.crc 4294967295 ((Crc.be4 p ++ page).take k))) (fun _ si => 4 + page.length - (intOf si).toNat)
  case atStart => exact ⟨0, 4294967295, Nat.zero_le _, rfl, rfl, by decide, (rfl : 4294967295 = Crc.crc 4294967295 ((Crc.be4 p ++ page).take 0))⟩
  case round =>
    obtain ⟨k, c, hk, rfl, rfl, hcl, HI⟩ := hrel
    by_cases hlt : k < 4 + page.length
    · obtain ⟨x, hx⟩ : ∃ x, (Crc.be4 p ++ page)[k]? = some x := ⟨_, List.getElem?_eq_getElem (by rw [HLL.out]; exact hlt)⟩
      have hxb := HB.out x (List.mem_of_getElem? hx)
      have hcell := HW.out k x hx
      have hT := crc_take (c := 4294967295) hx
      rw [← HI.out] at hT
      have HT : Hid _ := hT
      have hkI : (k : Int) < ((4 + page.length : Nat) : Int) := by omega
      have hkI2 : (k : Int) < 4 + (page.length : Int) := by omega
      have hxo := i64_xor_nat c (x * 16777216) (by omega) (by omega)
      have hxo2 : bits BinOp.xor IntKind.i64 (c : Int) ((x : Int) * 16777216) = ((c ^^^ (x * 16777216) : Nat) : Int) := by rw [← hxo]; congr 1
      have hx32 : c ^^^ (x * 16777216) < 4294967296 := Nat.xor_lt_two_pow (n := 32) hcl (by omega)
      clear hx hT hxo HI
      generalize hy : c ^^^ (x * 16777216) = y at hxo2 hx32
      have HY : Hid (Crc.feed c x = Crc.shifts 8 y) := (by rw [← hy]; rfl : _ = _)
      clear hy
      go_wp2
      go_loop [5, 8] (fun sc sj => ∃ j d : Nat, j ≤ 8 ∧ sj = .int .i64 (j : Int) ∧ sc = .int .i64 (d : Int) ∧ d < 4294967296 ∧ Hid (d = Crc.shifts j y)) (fun _ sj => 8 - (intOf sj).toNat)
      case atStart => exact ⟨0, y, Nat.zero_le _, rfl, rfl, hx32, (rfl : y = Crc.shifts 0 y)⟩
      case round =>
        obtain ⟨j, d, hj, rfl, rfl, hd, HD⟩ := hrel
        by_cases hlt8 : j < 8
        · have hS := shifts_succ j y
          rw [← HD.out] at hS
          have hSl := shifts_lt (j + 1) y hx32
          by_cases hbig : 2147483648 ≤ d
          · have hbI : (4294967296 : Int) ≤ 2 * (d : Int) := by omega
            have hq := i64_xor_nat (2 * d - 4294967296) 79764919 (by omega) (by decide)
            have hq2 : bits BinOp.xor IntKind.i64 (2 * (d : Int) - 4294967296) 79764919 = ((2 * d - 4294967296 ^^^ 79764919 : Nat) : Int) := by rw [← hq]; congr 1; omega
            rw [shift_big hbig hd] at hS
            have HS : Hid ((2 * d - 4294967296 ^^^ 79764919) = Crc.shifts (j + 1) y) := hS.symm
            have hl2 : (2 * d - 4294967296 ^^^ 79764919) < 4294967296 := by rw [HS.out]; exact hSl
            clear hS hq hSl
            go_wp2
            go_round
            case rel => exact ⟨j + 1, 2 * d - 4294967296 ^^^ 79764919, by omega, by go_num, rfl, hl2, HS.out⟩
            case measure => simp [intOf]; omega
          · have hbI : ¬ (4294967296 : Int) ≤ 2 * (d : Int) := by omega
            rw [shift_small (by omega)] at hS
            have HS : Hid (2 * d = Crc.shifts (j + 1) y) := hS.symm
            clear hS hSl
            go_wp2
            go_round
            case rel => exact ⟨j + 1, 2 * d, by omega, by go_num, by go_num, by omega, HS.out⟩
            case measure => simp [intOf]; omega
        · obtain rfl : j = 8 := by omega
          have HE : Hid (d = Crc.crc 4294967295 ((Crc.be4 p ++ page).take (k + 1))) := (by rw [HD.out, HT.out, HY.out] : _ = _)
          clear HD
          go_wp2
          go_round
          case rel => exact ⟨k + 1, d, by omega, by go_num, rfl, hd, HE.out⟩
          case measure => simp [intOf]; omega
    · obtain rfl : k = 4 + page.length := by omega
      have hE := HI.out
      rw [← HLL.out, List.take_length] at hE
      have hq := i64_xor_nat c 4294967295 (by omega) (by decide)
      have HE : Hid ((c ^^^ 4294967295) = Crc.sumOf p page) := (by rw [hE]; rfl : _ = _)
      clear hE HI
      go_wp2
      go_ret
      exact ⟨ret1 (by rw [← HE.out]; first | rfl | exact congrArg (Value.int IntKind.i64) hq), HBe.out⟩
end Go.Proofs.YtphjbbbnbmafnaaGreatDoor.G

namespace Go.Proofs.YtphjbbbnbmafnaaGreatDoor.G
open Go.RowKit

/-- so many bits of a list, from a place on -/
def sub (l : List Bool) (a k : Nat) : List Bool := (List.range k).map fun i => l.getD (a + i) false
theorem sub_succ (l : List Bool) (a k : Nat) : sub l a (k + 1) = sub l a k ++ [l.getD (a + k) false] := by unfold sub; rw [List.range_succ]; simp
theorem sub_len (l : List Bool) (a k : Nat) : (sub l a k).length = k := by simp [sub]
/-- the first i bytes of page p -/
def pageB (l : List Bool) (p i : Nat) : List Nat := (List.range i).map fun k => numOf (sub l (2016 * p + 8 * k) 8)
theorem pageB_succ (l : List Bool) (p i : Nat) : pageB l p (i + 1) = pageB l p i ++ [numOf (sub l (2016 * p + 8 * i) 8)] := by unfold pageB; rw [List.range_succ]; simp
theorem pageB_len (l : List Bool) (p i : Nat) : (pageB l p i).length = i := by simp [pageB]
theorem byte_lt (l : List Bool) (a : Nat) : numOf (sub l a 8) < 256 := by
  have := numOf_lt (sub l a 8)
  rw [sub_len] at this
  exact this
theorem pageB_lt (l : List Bool) (p i x : Nat) (h : x ∈ pageB l p i) : x < 256 := by
  unfold pageB at h
  obtain ⟨k, _, rfl⟩ := List.mem_map.1 h
  exact byte_lt _ _
/-- a page and its sum -/
def whole (l : List Bool) (p : Nat) : List Nat := pageB l p 252 ++ Crc.be4 (Crc.sumOf p (pageB l p 252))
/-- the first n pages -/
def pagesB (l : List Bool) (n : Nat) : List Nat := (List.range n).flatMap (whole l)
theorem pagesB_succ (l : List Bool) (n : Nat) : pagesB l (n + 1) = pagesB l n ++ whole l n := by unfold pagesB; rw [List.range_succ]; simp
theorem pagesB_len (l : List Bool) (n : Nat) : (pagesB l n).length = 256 * n := by
  induction n with
  | zero => rfl
  | succ n ih => rw [pagesB_succ, List.length_append, ih]; unfold whole; rw [List.length_append, pageB_len]; simp [Crc.be4]; omega
theorem whole_lt (l : List Bool) (p x : Nat) (h : x ∈ whole l p) : x < 256 := by
  unfold whole at h
  rcases List.mem_append.1 h with h | h
  · exact pageB_lt _ _ _ _ h
  · simp [Crc.be4] at h; omega
theorem pagesB_lt (l : List Bool) (n x : Nat) (h : x ∈ pagesB l n) : x < 256 := by
  unfold pagesB at h
  obtain ⟨p, _, hp⟩ := List.mem_flatMap.1 h
  exact whole_lt _ _ _ hp
theorem txt_at (l : List Bool) (i : Nat) (h : i < (txt l).size) : ((txt l)[i].toNat : Int) = 48 + ((l.getD i false).toNat : Int) := by
  have h' := h
  rw [txt_size] at h'
  have a := at_k (txt l) i h
  have e : (txt l).data.toList[i]? = some (if l[i] then 49 else 48) := by simp [txt, h']
  rw [e] at a
  simp only [Option.some.injEq] at a
  rw [← a, List.getD_eq_getElem?_getD, List.getElem?_eq_getElem h']
  cases l[i] <;> rfl
theorem own_below {w w' : World} {B : Nat} {e : TypeId} {v : Value} {n : Nat} {xs : List Value} (h : w.ownsRow B e 1 v n xs) (hB : Below w.heap.size w w') : w'.ownsRow B e 1 v n xs := by
  refine ⟨h.1, ?_⟩
  rcases h.2 with h0 | ⟨g, cap, cur, hv, hb, hg, r⟩
  · exact .inl h0
  · refine .inr ⟨g, cap, cur, hv, hb, ?_, r⟩
    rw [hB.block g (by
      rcases Nat.lt_or_ge g w.heap.size with h | h
      · exact h
      · rw [Array.getElem?_eq_none h] at hg; cases hg)]
    exact hg
/-- a row of bytes of one's own, from block B on -/
def OwnB (w : World) (wr : World) (v : Value) (l : List Nat) : Prop := wr.ownsRow w.heap.size 5 1 v l.length (valsB l) ∧ Below w.heap.size w wr
theorem valsB_append (l m : List Nat) : valsB (l ++ m) = valsB l ++ valsB m := by simp [valsB]
theorem ownB_more {w wr w2 : World} {v v' : Value} {l m : List Nat} {o : Obj} (h : OwnB w wr v l) (hown : w2.ownsRow w.heap.size 5 1 v' (l.length + m.length) (valsB l ++ valsB m)) (hg : (wr.alloc o).grownBy w2 v.ownBlock) : OwnB w w2 v' (l ++ m) := by
  refine ⟨by rw [valsB_append, List.length_append]; exact hown, ?_⟩
  exact (h.2.alloc h.2.size o).grown hg (by have := h.2.size; simp; omega) (fun j hj => (h.1.lt j hj).1)
theorem ownB_more' {w wr w2 : World} {v v' : Value} {l m : List Nat} (h : OwnB w wr v l) (hown : w2.ownsRow w.heap.size 5 1 v' (l.length + m.length) (valsB l ++ valsB m)) (hg : wr.grownBy w2 v.ownBlock) : OwnB w w2 v' (l ++ m) := by
  refine ⟨by rw [valsB_append, List.length_append]; exact hown, ?_⟩
  exact h.2.grown hg h.2.size (fun j hj => (h.1.lt j hj).1)
theorem row_own {w wr : World} {v : Value} {l : List Nat} (h : OwnB w wr v l) (hl : l ≠ []) : RowB wr v l := by
  rcases h.1.2 with ⟨_, h0⟩ | ⟨g, cap, cur, rfl, _⟩
  · exact absurd (List.length_eq_zero_iff.1 h0) hl
  · refine ⟨g, 0, cap, rfl, fun j x hj => ?_⟩
    have hjl : j < l.length := by
      rcases Nat.lt_or_ge j l.length with e | e
      · exact e
      · rw [List.getElem?_eq_none e] at hj; cases hj
    rw [Nat.zero_add, h.1.cellAt j (by omega)]
    unfold valsB
    rw [List.getElem?_map, hj]; rfl
theorem src_one (w : World) (x : Nat) (t : TypeId) (j : Nat) (u : Value) (hj : (valsB [x])[j]? = some u) : (w.alloc (.cells #[.int .u8 (x : Int)] t)).cell? ((⟨w.heap.size, 0, none⟩ : Addr).add j) = some u := by
  match j, hj with
  | 0, hj => simp [valsB] at hj; subst hj; simp [Addr.add]

theorem src_four (w : World) (a b c d : Value) (t : TypeId) (j : Nat) (u : Value) (hj : [a, b, c, d][j]? = some u) : (w.alloc (.cells #[a, b, c, d] t)).cell? ((⟨w.heap.size, 0, none⟩ : Addr).add j) = some u := by
  match j, hj with
  | 0, hj => simp at hj; subst hj; simp [Addr.add]
  | 1, hj => simp at hj; subst hj; simp [Addr.add]
  | 2, hj => simp at hj; subst hj; simp [Addr.add]
  | 3, hj => simp at hj; subst hj; simp [Addr.add]
  | j + 4, hj => simp at hj
theorem four_one (a b c d : Int) (u : Value) (hu : u ∈ [Value.int .u8 a, .int .u8 b, .int .u8 c, .int .u8 d]) : u.oneCell' = true := by
  simp at hu
  rcases hu with rfl | rfl | rfl | rfl <;> rfl
theorem be4_sum (S : Nat) (h : S < 4294967296) : [Value.int .u8 ((S : Int) / 16777216), .int .u8 ((S : Int) / 65536 % 256), .int .u8 ((S : Int) / 256 % 256), .int .u8 ((S : Int) % 256)] = valsB (Crc.be4 S) := by
  unfold valsB Crc.be4
  simp only [List.map_cons, List.map_nil]
  rw [show ((S / 16777216 % 256 : Nat) : Int) = (S : Int) / 16777216 by omega, show ((S / 65536 % 256 : Nat) : Int) = (S : Int) / 65536 % 256 by omega, show ((S / 256 % 256 : Nat) : Int) = (S : Int) / 256 % 256 by omega, show ((S % 256 : Nat) : Int) = (S : Int) % 256 by omega]

theorem conv_row {w wr : World} {v : Value} {l : List Nat} (h : OwnB w wr v l) (hl : 0 < l.length) (hb : ∀ x, x ∈ l → x < 256) :
    ∃ g off cap, v = .slice (some ⟨g, off, none⟩) l.length cap ∧ (convert 113 9 (.slice (some ⟨g, off, none⟩) l.length cap)).run Tryz.prog wr = .ok (.string ⟨(l.map UInt8.ofNat).toArray⟩) wr := by
  obtain ⟨g, off, cap, hv, hc⟩ := row_own h (by intro e; rw [e] at hl; exact absurd hl (by decide))
  refine ⟨g, off, cap, hv, ?_⟩
  have := run_convert_bytes_back (P := Tryz.prog) wr 113 9 5 ⟨g, off, none⟩ cap (l.map UInt8.ofNat) Tryz.underlying113 Tryz.underlying5 Tryz.underlying9 (fun j hj => by
    have hjl : j < l.length := by simpa using hj
    rw [addr_add, hc j l[j] (List.getElem?_eq_getElem hjl)]
    have hx := hb l[j] (List.getElem_mem hjl)
    simp only [List.getElem_map]
    congr 2
    have : (UInt8.ofNat l[j]).toNat = l[j] := by simp; omega
    rw [this])
  rw [List.length_map] at this
  exact this

set_option maxHeartbeats 8000000 in
set_option maxRecDepth 100000 in
theorem pages_any (l : List Bool) (w : World) (h1 : 2016 ≤ l.length) (h2 : l.length ≤ 2016000) :
    Calls Tryz.prog 53 #[.string (txt l)] w fun e w' => e = .returned (.string ⟨((pagesB l (l.length / 2016)).map UInt8.ofNat).toArray⟩) ∧ Below w.heap.size w w' := by
  obtain ⟨i0, hi, hz0, hz1, hz2⟩ := info_parts Tryz.infoB
  have hts := txt_size l
  go_enter Tryz.func53, Tryz.ntmps53
  go_wp2
  go_loopw [3, 4] (fun so sp wr => ∃ p : Nat, p ≤ l.length / 2016 ∧ sp = .int .i64 (p : Int) ∧ Hid (OwnB w wr so (pagesB l p))) (fun _ sp _ => l.length / 2016 - (intOf sp).toNat)
  case atStart => exact ⟨0, Nat.zero_le _, rfl, World.ownsRow_nil _ _ _ _, Below.refl _ _⟩
  case round =>
    obtain ⟨p, hp, rfl, HO⟩ := hrel
    obtain ⟨W0, rfl⟩ : ∃ W0, W0 = wr := ⟨wr, rfl⟩
    obtain ⟨v0, rfl⟩ : ∃ v0, v0 = u3 := ⟨u3, rfl⟩
    by_cases hlt : p < l.length / 2016
    · have hpI : (p : Int) < (l.length : Int) / 2016 := by omega
      go_wp2
      go_loopw [5, 6] (fun sg si wq => ∃ i : Nat, i ≤ 252 ∧ si = .int .i64 (i : Int) ∧ Hid (OwnB W0 wq sg (pageB l p i))) (fun _ si _ => 252 - (intOf si).toNat)
      case atStart => exact ⟨0, Nat.zero_le _, rfl, World.ownsRow_nil _ _ _ _, Below.refl _ _⟩
      case round =>
        obtain ⟨i, hi2, rfl, HP⟩ := hrel
        by_cases hlt2 : i < 252
        · go_wp2
          go_loop [7, 8] (fun sn sk => ∃ k m : Nat, k ≤ 8 ∧ sk = .int .i64 (k : Int) ∧ sn = .int .i64 (m : Int) ∧ m < 256 ∧ Hid (m = numOf (sub l (2016 * p + 8 * i) k))) (fun _ sk => 8 - (intOf sk).toNat)
          case atStart => exact ⟨0, 0, Nat.zero_le _, rfl, rfl, by decide, (rfl : 0 = numOf (sub l (2016 * p + 8 * i) 0))⟩
          case round =>
            obtain ⟨k, m, hk, rfl, rfl, hm, HM⟩ := hrel
            by_cases hlt3 : k < 8
            · obtain ⟨q, hq⟩ : ∃ q : Nat, q = 2016 * p + 8 * i + k := ⟨_, rfl⟩
              have hqI : 2016 * (p : Int) + 8 * (i : Int) + (k : Int) = (q : Int) := by omega
              have hql : q < l.length := by omega
              have hqs : q < (txt l).size := by rw [txt_size]; exact hql
              have htx := txt_at l q hqs
              have hN := numOf_snoc (sub l (2016 * p + 8 * i) k) (l.getD (2016 * p + 8 * i + k) false)
              rw [← sub_succ, ← HM.out, ← hq] at hN
              have hL := numOf_lt (sub l (2016 * p + 8 * i) (k + 1))
              rw [sub_len] at hL
              have hpw : 2 ^ (k + 1) ≤ 2 ^ 8 := Nat.pow_le_pow_right (by decide) (by omega)
              have hqsI : (q : Int) < ((txt l).size : Int) := by omega
              clear hq
              cases hbit : l.getD q false
              · rw [hbit] at hN htx
                have htx2 : ((txt l)[q].toNat : Int) = 48 := by rw [htx]; rfl
                have HN : Hid (2 * m = numOf (sub l (2016 * p + 8 * i) (k + 1))) := (by rw [hN]; simp : _ = _)
                have hmm : 2 * m < 256 := by rw [HN.out]; omega
                clear hN htx hbit hL hpw HM
                go_wp2
                go_round
                case rel => exact ⟨k + 1, 2 * m, by omega, by go_num, by go_num, hmm, HN.out⟩
                case measure => simp [intOf]; omega
              · rw [hbit] at hN htx
                have htx2 : ((txt l)[q].toNat : Int) = 49 := by rw [htx]; rfl
                have HN : Hid (2 * m + 1 = numOf (sub l (2016 * p + 8 * i) (k + 1))) := (by rw [hN]; simp : _ = _)
                have hmm : 2 * m + 1 < 256 := by rw [HN.out]; omega
                clear hN htx hbit hL hpw HM
                go_wp2
                go_round
                case rel => exact ⟨k + 1, 2 * m + 1, by omega, by go_num, by go_num, hmm, HN.out⟩
                case measure => simp [intOf]; omega
            · obtain rfl : k = 8 := by omega
              have hrow := HP.out.1
              have hsz := HP.out.2.size
              have hpl := pageB_len l p i
              have hwr : IntKind.u8.wrap (m : Int) = (m : Int) := by rw [IntKind.wrap_u8]; omega
              have hwr2 : (m : Int) % 256 = (m : Int) := by omega
              have HE : Hid (pageB l p (i + 1) = pageB l p i ++ [m]) := (by rw [pageB_succ, HM.out] : _ = _)
              clear HM
              go_wp2_with (at_builtin; refine wpList_append_own _ rfl _ _ 113 rfl W0.heap.size 5 i0 (.int .u8 0) 1 1 Tryz.underlying113 hi hz0 hz1 hz2 rfl (by decide) _ _ _ rfl (hrow.alloc _) ⟨wr.heap.size, 0, none⟩ 1 1 (valsB [m]) rfl rfl (src_one _ _ _) (vals_one _) (by unfold maxLen; omega) (by omega) (le_alloc hsz) ?_; intro v' w2 hown hgrow hnil)
              have HO2 : Hid _ := ownB_more (m := [m]) HP.out hown hgrow
              clear hown hgrow hnil hrow hpl
              go_wp2
              go_roundw
              case rel => exact ⟨i + 1, by omega, by go_num, by rw [HE.out]; exact HO2.out⟩
              case measure => simp [intOf]; omega
        · obtain rfl : i = 252 := by omega
          have hOo := own_below HO.out.1 HP.out.2
          have hOb : Below w.heap.size w wr := chain HO.out.2 HP.out.2
          have hRow := row_own HP.out (by intro e; have := pageB_len l p 252; rw [e] at this; cases this)
          have HSum : Hid (Calls Tryz.prog 60 _ wr _) := sum_any p (pageB l p 252) u5 wr (by omega) (by rw [pageB_len]; decide) hRow (fun x hx => pageB_lt _ _ _ _ hx)
          have hsl := Crc.sum_lt p (pageB l p 252)
          have HRow : Hid (RowB wr u5 (pageB l p 252)) := hRow
          have HOo : Hid _ := hOo
          have HOb : Hid _ := hOb
          clear hRow hOo hOb HP
          go_wp2_with fail
          refine (Calls.mono HSum.out ?_)
          rintro e w3 ⟨rfl, hB3⟩
          obtain ⟨g, off, cap, rfl, hc⟩ := HRow.out
          generalize hS : Crc.sumOf p (pageB l p 252) = S at hsl
          have HS : Hid (Crc.sumOf p (pageB l p 252) = S) := hS
          have hO3 := own_below HOo.out hB3
          have hb3 := chain HOb.out hB3
          have hb3s := hb3.size
          have hpl := pagesB_len l p
          have hcc := vals_cell hc hB3
          have HO3 : Hid (OwnB w w3 v0 (pagesB l p)) := ⟨hO3, hb3⟩
          clear hS hc hB3 hb3 HOo HOb HRow HSum
          go_wp2_with (first | (at_builtin; refine wpList_append_own _ rfl _ _ 113 rfl w.heap.size 5 i0 (.int .u8 0) 1 1 Tryz.underlying113 hi hz0 hz1 hz2 rfl (by decide) _ _ _ rfl hO3 ⟨g, off, none⟩ (pageB l p 252).length cap (valsB (pageB l p 252)) rfl (by simp [valsB]) hcc (vals_one _) (by unfold maxLen; rw [hpl, pageB_len]; omega) (by rw [hpl, pageB_len]; omega) hb3s ?_; intro v4 w4 hown4 hgrow4 hnil4) | (at_builtin; refine wpList_append_own _ rfl _ _ 113 rfl w.heap.size 5 i0 (.int .u8 0) 1 1 Tryz.underlying113 hi hz0 hz1 hz2 rfl (by decide) _ _ _ rfl (hown4.alloc _) ⟨w4.heap.size, 0, none⟩ 4 4 [.int .u8 ((S : Int) / 16777216), .int .u8 ((S : Int) / 65536 % 256), .int .u8 ((S : Int) / 256 % 256), .int .u8 ((S : Int) % 256)] rfl rfl (src_four _ _ _ _ _ _) (four_one _ _ _ _) (by unfold maxLen; rw [hpl, pageB_len]; omega) (by rw [hpl, pageB_len]; omega) (le_alloc (Nat.le_trans hb3s hgrow4.size)) ?_; intro v5 w5 hown5 hgrow5 hnil5))
          have HO4 : Hid (OwnB w w4 v4 (pagesB l p ++ pageB l p 252)) := ownB_more' HO3.out hown4 hgrow4
          have HO5 : Hid (OwnB w w5 v5 (pagesB l (p + 1))) := by
            have h := hown5
            rw [be4_sum S hsl] at h
            have e := ownB_more (m := Crc.be4 S) HO4.out (by rw [List.length_append, valsB_append]; exact h) hgrow5
            rw [pagesB_succ]
            unfold whole
            rw [HS.out, ← List.append_assoc]
            exact e
          clear hown4 hgrow4 hnil4 hown5 hgrow5 hnil5 hO3 hcc hpl HO3 HO4
          go_wp2
          go_roundw
          case rel => exact ⟨p + 1, by omega, by go_num, HO5.out⟩
          case measure => simp [intOf]; omega
    · obtain rfl : p = l.length / 2016 := by omega
      have hpI : ¬ ((l.length / 2016 : Nat) : Int) < (l.length : Int) / 2016 := by omega
      have hcv := conv_row HO.out (by have := pagesB_len l (l.length / 2016); omega) (pagesB_lt l _)
      obtain ⟨g, off, cap, rfl, hcv⟩ := hcv
      have HB : Hid _ := HO.out.2
      clear HO
      go_wp2
      go_ret
      exact ⟨rfl, HB.out⟩
end Go.Proofs.YtphjbbbnbmafnaaGreatDoor.G

namespace Go.Proofs.YtphjbbbnbmafnaaGreatDoor.G
open Go.RowKit Gm

/-- for each of the first n nodes as many ones as edges are from it, and a 0 -/
def srcs (l : List Gm.E3) : Nat → List Bool
  | 0 => []
  | u + 1 => srcs l u ++ (List.replicate (ah l (u + 1) - ah l u) true ++ [false])
theorem srcs_len (l : List Gm.E3) (h : ah l 0 = 0) (u : Nat) : (srcs l u).length = ah l u + u := by
  induction u with
  | zero => rw [h]; rfl
  | succ u ih =>
    have := ah_mono l (show u ≤ u + 1 by omega)
    show (srcs l u ++ _).length = _
    rw [List.length_append, ih]
    simp
    omega
/-- numbers in so many bits each, one behind the other -/
def nums (k : Nat) (l : List Nat) : List Bool := l.flatMap (digs k)
theorem nums_len (k : Nat) (l : List Nat) : (nums k l).length = k * l.length := by
  induction l with
  | nil => rfl
  | cons a l ih => unfold nums at *; rw [List.flatMap_cons, List.length_append, ih, digs_len, List.length_cons, Nat.mul_add]; omega
theorem nums_snoc (k : Nat) (l : List Nat) (a : Nat) : nums k (l ++ [a]) = nums k l ++ digs k a := by unfold nums; simp
def labs (l : List Gm.E3) : List Nat := l.map fun e => e.2.1.toNat
def tos (l : List Gm.E3) : List Nat := l.map fun e => e.2.2.toNat
/-- a graph as bits; its edges are in order -/
def gbits (n s : Nat) (l : List Gm.E3) : List Bool :=
  digs 14 n ++ digs 5 s ++ digs 15 l.length ++ srcs l n ++ nums (wid (s - 1)) (labs l) ++ nums (wid (n - 1)) (tos l)
theorem gbits_len (n s : Nat) (l : List Gm.E3) (h0 : ah l 0 = 0) (hn : ah l n = l.length) : (gbits n s l).length = 34 + n + l.length + wid (s - 1) * l.length + wid (n - 1) * l.length := by
  unfold gbits
  simp only [List.length_append, digs_len, nums_len, srcs_len l h0, hn, labs, tos, List.length_map]
  omega
/-- how many pages so many bits take -/
def npages (k : Nat) : Nat := (k + 2015) / 2016
/-- bytes as a string -/
def str (l : List Nat) : ByteArray := ⟨(l.map UInt8.ofNat).toArray⟩
theorem str_size (l : List Nat) : (str l).size = l.length := by simp [str, ByteArray.size]
/-- bits as pages: 0 behind the end -/
def image (l : List Bool) : ByteArray := str (pagesB l (npages l.length))
theorem image_size (l : List Bool) : (image l).size = 256 * npages l.length := by
  unfold image; rw [str_size, pagesB_len]
/-- what Build gives -/
def built (n s : Nat) (l : List Gm.E3) : ByteArray := image (gbits n s (ordE l))
/-- 0 behind the end changes no page -/
theorem sub_pad (l m : List Bool) (a k : Nat) (h : ∀ i, l.getD i false = m.getD i false) : sub l a k = sub m a k := by
  unfold sub
  exact List.map_congr_left (fun i _ => h _)
theorem pagesB_pad (l m : List Bool) (n : Nat) (h : ∀ i, l.getD i false = m.getD i false) : pagesB l n = pagesB m n := by
  have hp : ∀ p i, pageB l p i = pageB m p i := fun p i => by
    unfold pageB
    exact List.map_congr_left (fun k _ => by rw [sub_pad l m _ _ h])
  have hw : ∀ p, whole l p = whole m p := fun p => by unfold whole; rw [hp]
  unfold pagesB
  rw [show whole l = whole m from funext hw]
theorem pad_getD (l : List Bool) (k i : Nat) : (l ++ List.replicate k false).getD i false = l.getD i false := by
  simp only [List.getD_eq_getElem?_getD]
  by_cases h : i < l.length
  · rw [List.getElem?_append_left h]
  · rw [List.getElem?_append_right (by omega), List.getElem?_eq_none (by omega : l.length ≤ i), List.getElem?_replicate]
    split <;> rfl
end Go.Proofs.YtphjbbbnbmafnaaGreatDoor.G
