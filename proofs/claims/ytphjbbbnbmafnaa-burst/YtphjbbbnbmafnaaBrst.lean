/-
  trelliskeep.Burst: bits of one page that are others, within 32 that lie one behind the other, are told by ErrCorrupt; where none is, the graph is opened: true, for all raw numbers; nothing that was there is written.
-/
import Derived.Test.YtphjbbbnbmafnaaBrM
import Derived.Test.YtphjbbbnbmafnaaKMade
import Derived.Test.YtphjbbbnbmafnaaKnown
import Derived.Test.YtphjbbbnbmafnaaPOpen
import Derived.BigRegion
import Derived.Laws.IdiomStrings
namespace Go.Proofs.Ytphjbbbnbmafnaa.G
open Go.RowKit

/-! ### bytes of one's own -/
def ByAt (w : World) (g cap N : Nat) (fz : Nat × Nat) (f : Nat → Nat) : Prop :=
  ∃ cur : Array Value, w.heap[g]? = some (.cells cur 5 fz) ∧ cur.size = cap ∧ N ≤ cap ∧ Free cap fz ∧ ∀ i, i < N → cur[i]? = some (.int .u8 (f i : Int))
theorem ByAt.cell {w : World} {g cap N : Nat} {fz : Nat × Nat} {f : Nat → Nat} (h : ByAt w g cap N fz f) (i : Nat) (hi : i < N) : w.cell? ⟨g, i, none⟩ = some (.int .u8 (f i : Int)) ∧ w.frozen? ⟨g, i, none⟩ = false := by
  obtain ⟨cur, hg, hs, hn, hf, hc⟩ := h
  refine ⟨by rw [cell_of_row w g i _ _ _ hg]; exact hc i hi, ?_⟩
  have hf := hf i (by omega)
  obtain ⟨lo, hi'⟩ := fz
  simp only [World.frozen?, hg, Bool.and_eq_false_iff, decide_eq_false_iff_not]
  simp only at hf
  omega
theorem ByAt.set {w : World} {g cap N : Nat} {fz : Nat × Nat} {f : Nat → Nat} (h : ByAt w g cap N fz f) (i y : Nat) : ByAt (w.setCell ⟨g, i, none⟩ (.int .u8 (y : Int))) g cap N fz (fun j => if j = i then y else f j) := by
  obtain ⟨cur, hg, hs, hn, hf, hc⟩ := h
  have hh : (w.setCell ⟨g, i, none⟩ (.int .u8 (y : Int))).heap[g]? = some (.cells (cur.setIfInBounds i (.int .u8 (y : Int))) 5 fz) := by simp [World.setCell, Array.getElem?_modify, hg]
  refine ⟨_, hh, by simpa using hs, hn, hf, fun j hj => ?_⟩
  rw [Array.getElem?_setIfInBounds]
  by_cases e : i = j
  · subst e; rw [if_pos rfl, if_pos (by omega)]; simp
  · rw [if_neg e, hc j hj]
    simp only
    rw [if_neg (fun h => e h.symm)]
theorem ByAt.drewN {w : World} {g cap N : Nat} {fz : Nat × Nat} {f : Nat → Nat} (h : ByAt w g cap N fz f) (q : Nat) : ByAt (w.drewN q) g cap N fz f := h
theorem ByAt.congr {w : World} {g cap N : Nat} {fz : Nat × Nat} {f f' : Nat → Nat} (h : ByAt w g cap N fz f) (he : ∀ i, i < N → f i = f' i) : ByAt w g cap N fz f' := by
  obtain ⟨cur, hg, hs, hn, hf, hc⟩ := h
  exact ⟨cur, hg, hs, hn, hf, fun i hi => by rw [hc i hi, he i hi]⟩
theorem ByAt.conv {w : World} {g cap N : Nat} {fz : Nat × Nat} {f : Nat → Nat} (h : ByAt w g cap N fz f) (hf : ∀ i, i < N → f i < 256) :
    (convert 48 9 (.slice (some ⟨g, 0, none⟩) N cap)).run Try.prog w = .ok (.string (str ((List.range N).map f))) w := by
  have := run_convert_bytes_back (P := Try.prog) w 48 9 5 ⟨g, 0, none⟩ cap (((List.range N).map f).map UInt8.ofNat) Try.underlying48 Try.underlying5 Try.underlying9 (fun j hj => by
    have hjl : j < N := by simpa using hj
    rw [addr_add, Nat.zero_add, (h.cell j hjl).1]
    have hx := hf j hjl
    simp only [List.getElem_map, List.getElem_range]
    congr 2
    have : (UInt8.ofNat (f j)).toNat = f j := by simp; omega
    rw [this])
  rw [List.length_map, List.length_map, List.length_range] at this
  exact this
/-- the bytes of a string -/
def bytf (s : ByteArray) (i : Nat) : Nat := (s.data.toList.getD i 0).toNat
theorem bytf_lt (s : ByteArray) (i : Nat) : bytf s i < 256 := UInt8.toNat_lt _
theorem byAt_start (s : ByteArray) (w : World) : ∃ cap fz, (convert 9 48 (.string s)).run Try.prog w = .ok (.slice (some ⟨w.heap.size, 0, none⟩) s.size cap) (w.drew.alloc (.cells (bytesRow s cap) 5 fz)) ∧ ByAt (w.drew.alloc (.cells (bytesRow s cap) 5 fz)) w.heap.size cap s.size fz (bytf s) := by
  have hcv := run_bytes_of_string (P := Try.prog) w 9 48 5 s Try.underlying9 Try.underlying48 Try.underlying5
  have hge := grownCap_ge w s.size 0 5
  have hsz : (bytesRow s (grownCap w s.size 0 5)).size = grownCap w s.size 0 5 := by
    unfold bytesRow
    rw [Array.size_append, Array.size_map, Array.size_replicate, show s.data.size = s.size from rfl]
    omega
  refine ⟨_, _, hcv, _, heap_alloc_new w.drew _, hsz, hge, fun j hj h => ?_, fun i hi => ?_⟩
  · rw [hsz] at h; simp only at h; omega
  · have hsz : s.data.size = s.size := rfl
    have e : s.data.toList.getD i 0 = s.data[i]'(by omega) := by
      rw [List.getD_eq_getElem?_getD, Array.getElem?_toList, Array.getElem?_eq_getElem (by omega)]
      rfl
    unfold bytesRow bytf
    rw [Array.getElem?_append_left (by simp; omega), Array.getElem?_map, Array.getElem?_eq_getElem (by omega), e]
    rfl
theorem one_bit32 (x i : Nat) (hx : x < 4294967296) : (bits .and .u32 ((x : Int) / 2 ^ i) 1 == 1) = x.testBit i := by
  have e : ((x : Int) / 2 ^ i) = ((x / 2 ^ i : Nat) : Int) := by rw [Int.natCast_ediv]; simp
  have hl : x / 2 ^ i < 4294967296 := Nat.lt_of_le_of_lt (Nat.div_le_self _ _) hx
  have q : bits .and .u32 ((x / 2 ^ i : Nat) : Int) 1 = ((x / 2 ^ i &&& 1 : Nat) : Int) := by
    show IntKind.u32.wrap ((BitVec.ofInt 32 ((x / 2 ^ i : Nat) : Int) &&& BitVec.ofInt 32 1).toNat : Int) = _
    rw [BitVec.toNat_and]
    have e1 : (BitVec.ofInt 32 ((x / 2 ^ i : Nat) : Int)).toNat = x / 2 ^ i := by
      generalize x / 2 ^ i = m at hl
      simp; omega
    have e2 : (BitVec.ofInt 32 (1 : Int)).toNat = 1 := by decide
    rw [e1, e2, Nat.and_one_is_mod, IntKind.wrap_u32]
    omega
  rw [e, q, Nat.testBit_eq_decide_div_mod_eq, Nat.and_one_is_mod]
  generalize x / 2 ^ i % 2 = m
  by_cases h : m = 1
  · subst h; rfl
  · have : ¬ ((m : Int) = 1) := by omega
    simp [h, this]
theorem u8_xor_nat (a b : Nat) (ha : a < 256) (hb : b < 256) : bits .xor .u8 (a : Int) (b : Int) = ((a ^^^ b : Nat) : Int) := by
  have hx : a ^^^ b < 2 ^ 8 := Nat.xor_lt_two_pow (by omega) (by omega)
  show IntKind.u8.wrap ((BitVec.ofInt 8 (a : Int) ^^^ BitVec.ofInt 8 (b : Int)).toNat : Int) = _
  rw [BitVec.toNat_xor]
  have e1 : (BitVec.ofInt 8 (a : Int)).toNat = a := by simp; omega
  have e2 : (BitVec.ofInt 8 (b : Int)).toNat = b := by simp; omega
  rw [e1, e2, IntKind.wrap_u8]
  omega
/-- is no bit of the mask ahead of k a one? -/
def none1 (mask k : Nat) : Bool := (List.range k).all fun j => !mask.testBit j
theorem none1_succ (mask k : Nat) : none1 mask (k + 1) = (none1 mask k && !mask.testBit k) := by
  unfold none1; rw [List.range_succ, List.all_append]; simp
/-- the bytes behind the first k bits of the mask -/
def putf (s : ByteArray) (P from_ mask k i : Nat) : Nat := bytf s i ^^^ (if 256 * P ≤ i ∧ i < 256 * P + 256 then eb from_ mask k (i - 256 * P) else 0)
theorem putf_lt (s : ByteArray) (P from_ mask k i : Nat) : putf s P from_ mask k i < 256 := by
  unfold putf
  refine Nat.xor_lt_two_pow (n := 8) (bytf_lt s i) ?_
  split
  · exact eb_lt _ _ _ _
  · decide
theorem putf_zero (s : ByteArray) (P from_ mask i : Nat) : putf s P from_ mask 0 i = bytf s i := by
  unfold putf
  split
  · rw [eb_zero, Nat.xor_zero]
  · rw [Nat.xor_zero]
theorem putf_skip (s : ByteArray) (P from_ mask k i : Nat) (h : mask.testBit k = false) : putf s P from_ mask (k + 1) i = putf s P from_ mask k i := by
  unfold putf; rw [eb_skip _ _ _ _ h]
theorem putf_put (s : ByteArray) (P from_ mask k i : Nat) (h : mask.testBit k = true) (hk : from_ + k < 2048) :
    (if i = 256 * P + (from_ + k) / 8 then putf s P from_ mask k (256 * P + (from_ + k) / 8) ^^^ 2 ^ (7 - (from_ + k) % 8) else putf s P from_ mask k i) = putf s P from_ mask (k + 1) i := by
  by_cases e : i = 256 * P + (from_ + k) / 8
  · rw [if_pos e, e]
    unfold putf
    rw [if_pos ⟨by omega, by omega⟩, if_pos ⟨by omega, by omega⟩, Nat.add_sub_cancel_left, eb_here _ _ _ h, Nat.xor_assoc]
  · rw [if_neg e]
    unfold putf
    by_cases hr : 256 * P ≤ i ∧ i < 256 * P + 256
    · rw [if_pos hr, if_pos hr, eb_far _ _ _ _ (by omega)]
    · rw [if_neg hr, if_neg hr]
theorem shr_bit (i : Nat) (h : i < 8) : (128 : Int) / 2 ^ i = ((2 ^ (7 - i) : Nat) : Int) := by
  match i, h with
  | 0, _ => decide
  | 1, _ => decide
  | 2, _ => decide
  | 3, _ => decide
  | 4, _ => decide
  | 5, _ => decide
  | 6, _ => decide
  | 7, _ => decide
theorem byt_map (g : Nat → Nat) (N a n : Nat) (h : a + n ≤ N) (hg : ∀ i, g i < 256) : byt (str ((List.range N).map g)) a n = (List.range n).map fun i => g (a + i) := by
  rw [byt_str _ (fun x hx => by obtain ⟨i, _, rfl⟩ := List.mem_map.1 hx; exact hg i)]
  refine List.map_congr_left (fun i hi => ?_)
  have hi : i < n := by simpa using hi
  rw [List.getD_eq_getElem?_getD, List.getElem?_map, List.getElem?_range (by omega)]; rfl
theorem byt_img (img : ByteArray) (a n : Nat) : byt img a n = (List.range n).map fun i => bytf img (a + i) := rfl
theorem putf_at (img : ByteArray) (P fr mask i : Nat) (hi : i < 256) : putf img P fr mask 32 (256 * P + i) = bytf img (256 * P + i) ^^^ eb fr mask 32 i := by
  unfold putf
  rw [if_pos ⟨by omega, by omega⟩, Nat.add_sub_cancel_left]
/-- a page with other bits is not sealed -/
theorem put_told (img : ByteArray) (P fr mask : Nat) (hN : 256 * P + 256 ≤ img.size) (hfr : fr + 32 ≤ 2048) (hok : pageOk img P) (hm : ∃ k < 32, mask.testBit k = true) : ¬ pageOk (str ((List.range img.size).map (putf img P fr mask 32))) P := by
  have h := burst_told P (fun i => bytf img (256 * P + i)) fr mask hfr hm (by
    unfold pageOk at hok
    rw [byt_img, byt_img] at hok
    rw [← hok]
    exact List.map_congr_left (fun i _ => by rw [Nat.add_assoc]))
  intro h2
  apply h
  unfold pageOk at h2
  rw [byt_map _ _ _ _ (by omega) (putf_lt _ _ _ _ _), byt_map _ _ _ _ (by omega) (putf_lt _ _ _ _ _)] at h2
  have e1 : ((List.range 252).map fun i => putf img P fr mask 32 (256 * P + i)) = (List.range 252).map fun i => bytf img (256 * P + i) ^^^ eb fr mask 32 i := List.map_congr_left (fun i hi => by
    have : i < 252 := by simpa using hi
    exact putf_at _ _ _ _ _ (by omega))
  have e2 : ((List.range 4).map fun i => putf img P fr mask 32 (256 * P + 252 + i)) = (List.range 4).map fun i => bytf img (256 * P + (252 + i)) ^^^ eb fr mask 32 (252 + i) := List.map_congr_left (fun i hi => by
    have : i < 4 := by simpa using hi
    rw [Nat.add_assoc]
    exact putf_at _ _ _ _ _ (by omega))
  rw [e1, e2] at h2
  exact h2
theorem none1_all {mask : Nat} (h : none1 mask 32 = true) (k : Nat) (hk : k ≤ 32) (img : ByteArray) (P fr i : Nat) : putf img P fr mask k i = bytf img i := by
  induction k with
  | zero => exact putf_zero _ _ _ _ _
  | succ k ih =>
    have hb : mask.testBit k = false := by
      unfold none1 at h
      have := List.all_eq_true.1 h k (List.mem_range.2 (by omega))
      simpa using this
    rw [putf_skip _ _ _ _ _ _ hb, ih (by omega)]
theorem none1_some {mask : Nat} (h : none1 mask 32 = false) : ∃ k < 32, mask.testBit k = true := by
  unfold none1 at h
  rw [List.all_eq_false] at h
  obtain ⟨k, hk, hb⟩ := h
  exact ⟨k, List.mem_range.1 hk, by simpa using hb⟩
theorem str_bytf (img : ByteArray) : str ((List.range img.size).map (bytf img)) = img := by
  apply ByteArray.ext
  apply Array.ext'
  unfold str bytf
  simp only
  apply List.ext_getElem?
  intro i
  have hsz : img.data.size = img.size := rfl
  by_cases h : i < img.size
  · have e : img.data.toList[i]? = some (img.data[i]'(by omega)) := by rw [Array.getElem?_toList, Array.getElem?_eq_getElem (by omega)]
    have e2 : img.data.toList.getD i 0 = img.data[i]'(by omega) := by rw [List.getD_eq_getElem?_getD, e]; rfl
    rw [List.getElem?_map, List.getElem?_map, List.getElem?_range h, e, Option.map_some, Option.map_some, e2]
    simp
  · rw [List.getElem?_eq_none (by simp; omega), List.getElem?_eq_none (by simp; omega)]
theorem range_size (N : Nat) (g : Nat → Nat) : (str ((List.range N).map g)).size = N := by rw [str_size]; simp
set_option maxHeartbeats 4000000 in
set_option maxRecDepth 100000 in
theorem burst_any (a0 : Option Addr) (len cap0 : Nat) (R : Nat → Int) (page at_ : Int) (mask : Nat) (w : World) (hr : RawAt w a0 len R) (hp : -9223372036854775808 ≤ page ∧ page ≤ 9223372036854775807) (ha : -9223372036854775808 ≤ at_ ∧ at_ ≤ 9223372036854775807) (hm : mask < 4294967296) :
    Calls Try.prog 8 #[.slice a0 len cap0, .int .i64 page, .int .i64 at_, .int .u32 (mask : Int)] w fun e w' => e = .returned (.bool true) ∧ Below w.heap.size w w' := by
  have HKn : Hid (Calls Try.prog 38 _ w _) := known_any w
  have HRw : Hid _ := hr
  clear hr
  go_enter Try.func8, Try.ntmps8
  go_wp2_with fail
  refine (Calls.mono HKn.out ?_)
  rintro e w1 ⟨rfl, hB1⟩
  have HMd : Hid (Calls Try.prog 40 _ w1 _) := made_any a0 len cap0 R w1 ⟨HRw.out.1.imp id (fun ⟨b, off, h1, h2⟩ => ⟨b, off, h1, fun i hi => cell_kept hB1 _ _ (h2 i hi)⟩), HRw.out.2⟩
  have HB1 : Hid _ := hB1
  clear hB1 HKn
  go_wp2_with fail
  refine (Calls.mono HMd.out ?_)
  rintro e w2 ⟨v2, l, rfl, hE2, hl, hall, hB2⟩
  have hok : okG 50 4 l := ⟨⟨by decide, by decide, by decide, by decide, by omega⟩, hall⟩
  have his := imgOf_is (n := 50) (s := 4) hok
  have hBd := build_any 50 4 l v2 w2 hE2
  rw [show errOf 50 4 l = 0 by unfold errOf; rw [if_pos hok]] at hBd
  have e50 : imgOf ((50 : Nat) : Int) ((4 : Nat) : Int) l = imgOf 50 4 l := rfl
  rw [e50] at his
  generalize imgOf 50 4 l = img at his hBd
  have HBd : Hid (Calls Try.prog 39 _ w2 _) := hBd
  have HIs : Hid _ := his
  obtain ⟨_, hsz, hnp1, hnp0, _⟩ := his.size
  generalize npages (gbits 50 4 (Gm.ordE l)).length = np at hsz hnp1 hnp0
  have HB2 : Hid _ := chain HB1.out hB2
  clear hB2 HMd hBd e50 hok hE2 hall his
  have HSz : Hid _ := hsz
  have s1 : ((img.size : Int) == 0) = false := beq_eq_false_iff_ne.2 (by omega)
  have s2 : (img.size : Int) % 256 = 0 := by omega
  have s2' : (img.size : Int).tmod 256 = 0 := by rw [Int.tmod_eq_emod_of_nonneg (by omega)]; omega
  have s3 : (img.size : Int) / 256 = (np : Int) := by omega
  have s3' : (img.size : Int).tdiv 256 = (np : Int) := by rw [Int.tdiv_eq_ediv_of_nonneg (by omega)]; omega
  have s4 : img.size ≤ 256000 := by omega
  clear hsz
  go_wp2_with fail
  refine (Calls.mono HBd.out ?_)
  rintro e w3 ⟨rfl, hB3⟩
  have HB3 : Hid _ := chain HB2.out hB3
  obtain ⟨cap, fz, hcv, hby⟩ := byAt_start img w3
  have HBy : Hid (ByAt (w3.alloc (.cells (bytesRow img cap) 5 fz)).drew w3.heap.size cap img.size fz (bytf img)) := hby
  have HP : Hid (∀ W, Calls Try.prog 19 _ W _) := fun W => pick_fn page np hp (by omega) (by omega) (np : Int) rfl W
  have HA : Hid (∀ W, Calls Try.prog 19 _ W _) := fun W => pick_fn at_ 2017 ha (by decide) (by decide) 2017 rfl W
  have hP := pk_lt page np (by omega)
  have hA := pk_lt at_ 2017 (by decide)
  generalize pk page np = P at HP hP
  generalize pk at_ 2017 = fr at HA hA
  have HB4 : Hid _ := (HB3.out.alloc HB3.out.size (.cells (bytesRow img cap) 5 fz)).drew
  clear hB3 HBd hby
  go_wp2_with fail
  refine (Calls.mono (HP.out _) ?_)
  rintro e w4 ⟨rfl, hw⟩
  rw [hw]
  clear hw w4
  go_wp2_with fail
  refine (Calls.mono (HA.out _) ?_)
  rintro e w4 ⟨rfl, hw⟩
  rw [hw]
  clear hw w4 hcv
  go_wp2
  go_loopw [15, 16] (fun ss sk wr => ∃ k : Nat, k ≤ 32 ∧ sk = .int .i64 (k : Int) ∧ ss = .bool (none1 mask k) ∧ Hid (ByAt wr w3.heap.size cap img.size fz (putf img P fr mask k) ∧ Below w.heap.size w wr)) (fun _ sk _ => 32 - (intOf sk).toNat)
  case atStart => exact ⟨0, Nat.zero_le _, rfl, rfl, ByAt.congr HBy.out (fun i _ => (putf_zero img P fr mask i).symm), HB4.out⟩
  case round =>
    clear HBy HB4
    obtain ⟨k, hk, rfl, rfl, HI⟩ := hrel
    by_cases hlt : k < 32
    · have hbit := one_bit32 mask k hm
      have hN := none1_succ mask k
      cases hb : mask.testBit k
      · rw [hb] at hbit
        have HI2 : Hid (ByAt wr w3.heap.size cap img.size fz (putf img P fr mask (k + 1)) ∧ Below w.heap.size w wr) := ⟨HI.out.1.congr (fun i _ => (putf_skip img P fr mask k i hb).symm), HI.out.2⟩
        rw [hb, Bool.not_false, Bool.and_true] at hN
        have HN : Hid _ := hN
        clear HI hN hb
        go_wp2
        go_roundw
        case rel => exact ⟨k + 1, by omega, by go_num, by rw [HN.out], HI2.out⟩
        case measure => simp [intOf]; omega
      · rw [hb] at hbit
        rw [hb, Bool.not_true, Bool.and_false] at hN
        have HN : Hid _ := hN
        have hq : 256 * (P : Int) + ((fr : Int) + (k : Int)) / 8 = ((256 * P + (fr + k) / 8 : Nat) : Int) := by omega
        have hql : 256 * P + (fr + k) / 8 < img.size := by have := HSz.out; omega
        obtain ⟨hc, hfz⟩ := HI.out.1.cell _ hql
        have hlt8 := putf_lt img P fr mask k (256 * P + (fr + k) / 8)
        have HPut : Hid _ := HI.out.1.set (256 * P + (fr + k) / 8) (putf img P fr mask k (256 * P + (fr + k) / 8) ^^^ 2 ^ (7 - (fr + k) % 8))
        generalize hx : putf img P fr mask k (256 * P + (fr + k) / 8) = x at hc hlt8 HPut
        clear hN
        generalize hqq : 256 * P + (fr + k) / 8 = q at hq hql hc hfz HPut
        go_wp2
        go_region
        go_wp2
        have hv : bits BinOp.xor IntKind.u8 (x : Int) (128 / 2 ^ ((fr + k) % 8)) = ((x ^^^ 2 ^ (7 - (fr + k) % 8) : Nat) : Int) := by
          rw [shr_bit _ (by omega), u8_xor_nat x _ hlt8 (Nat.lt_of_le_of_lt (Nat.pow_le_pow_right (by decide) (by omega : 7 - (fr + k) % 8 ≤ 7)) (by decide))]
        rw [hv]
        refine ⟨⟨k + 1, by omega, by go_num, by rw [HN.out], ?_, (HI.out.2.setCell (p := ⟨w3.heap.size, q, none⟩) HB3.out.size _).drew⟩, by simp [intOf]; omega⟩
        refine (ByAt.congr HPut.out (fun i _ => ?_) : ByAt _ _ _ _ _ _)
        have h := putf_put img P fr mask k i hb (by omega)
        rw [hx, hqq] at h
        exact h
    · obtain rfl : k = 32 := by omega
      have hcv := ByAt.conv HI.out.1 (fun i _ => putf_lt _ _ _ _ _ _)
      have hlt32 : ¬ ((32 : Nat) : Int) < 32 := by decide
      have HO : Hid (∀ s, s.size ≤ 9223372036854775807 → Calls Try.prog 41 #[.string s] wr (OpenPost GraphAt s wr)) := fun s hs => open_any s wr hs
      have HB : Hid _ := HI.out.2
      cases hn1 : none1 mask 32
      · have hbad := put_told img P fr mask (by have := HSz.out; omega) (by omega) ((Is.size HIs.out).2.2.2.2 P (by have := (Is.size HIs.out).2.1; have := HSz.out; omega)) (none1_some hn1)
        have hsz := range_size img.size (putf img P fr mask 32)
        generalize str ((List.range img.size).map (putf img P fr mask 32)) = s' at hcv hbad hsz
        have HOp : Hid (Calls Try.prog 41 #[.string s'] wr _) := HO.out s' (by omega)
        have HBad : Hid _ := hbad
        have HS' : Hid _ := hsz
        clear hbad hsz HO HI hn1
        go_wp2_with fail
        refine (Calls.mono HOp.out ?_)
        rintro e w6 ⟨hB6, ⟨h1, _⟩ | ⟨_, _, rfl⟩ | ⟨_, h1, _⟩ | ⟨n', s'', L', b, h1, _⟩⟩
        · exact absurd ⟨by rw [HS'.out]; have := HSz.out; omega, by rw [HS'.out]; have := HSz.out; omega, by rw [HS'.out]; omega⟩ h1
        · have HB6 : Hid _ := chain HB.out hB6
          clear hB6
          go_wp2
          go_ret
          exact ⟨rfl, HB6.out⟩
        · exact absurd (h1 P (by rw [HS'.out]; have := HSz.out; omega)) HBad.out
        · refine absurd (h1.size.2.2.2.2 P ?_) HBad.out
          have e1 := h1.size.2.1
          have e2 := HSz.out
          rw [HS'.out] at e1
          omega
      · rw [show (putf img P fr mask 32) = bytf img from funext fun i => none1_all hn1 32 (Nat.le_refl _) img P fr i, str_bytf] at hcv
        have HOp : Hid (Calls Try.prog 41 #[.string img] wr _) := HO.out img (by omega)
        clear HO HI hn1
        go_wp2_with fail
        refine (Calls.mono HOp.out ?_)
        rintro e w6 ⟨hB6, ⟨h1, _⟩ | ⟨_, ⟨p, hp1, hp2⟩, _⟩ | ⟨_, _, h1, _⟩ | ⟨n', s'', L', b, h1, rfl, _⟩⟩
        · exact absurd (Is.size HIs.out).1 h1
        · refine absurd ((Is.size HIs.out).2.2.2.2 p ?_) hp2
          have := (Is.size HIs.out).2.1
          omega
        · exact absurd (HIs.out : Is img 50 4 (Gm.ordE l)) (h1 _ _ _)
        · have HB6 : Hid _ := chain HB.out hB6
          clear hB6 h1
          go_wp2
          go_ret
          exact ⟨rfl, HB6.out⟩
end Go.Proofs.Ytphjbbbnbmafnaa.G
