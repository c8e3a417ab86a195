/-
  The program's pages (pages.Write): a text of bits as pages, each with its sum, 0 behind the end; nothing that was there is written. At most a thousand pages.
-/
import Derived.Test.YtphjbbbnbmafnabGreatDoorPack
import Derived.Test.YtphjbbbnbmafnabGreatDoorBld
import Derived.Test.YtphjbbbnbmafnabGreatDoorGBits
namespace Go.Proofs.YtphjbbbnbmafnabGreatDoor.G
open Go.RowKit

/-- a stretch of a list of bits -/
def cutB (l : List Bool) (a n : Nat) : List Bool := (l.drop a).take n
theorem txt_extract (l : List Bool) (a b : Nat) : (txt l).extract a b = txt ((l.drop a).take (b - a)) := by
  apply ByteArray.ext
  simp [txt, ByteArray.data_extract]
theorem cutB_getD (l : List Bool) (a n k : Nat) (hk : k < n) : (cutB l a n).getD k false = l.getD (a + k) false := by
  unfold cutB
  simp only [List.getD_eq_getElem?_getD, List.getElem?_take, List.getElem?_drop, if_pos hk]
theorem page_cut (l : List Bool) (p : Nat) : pageB (cutB l (2016 * p) 2016) 0 252 = pageB l p 252 := by
  unfold pageB
  refine List.map_congr_left (fun k hk => ?_)
  have hk' : k < 252 := by simpa using hk
  congr 1
  unfold sub
  refine List.map_congr_left (fun j hj => ?_)
  have hj' : j < 8 := by simpa using hj
  rw [cutB_getD _ _ _ _ (by omega)]
  congr 1; omega
theorem cutB_len (l : List Bool) (a n : Nat) : (cutB l a n).length ≤ n := by unfold cutB; simp; omega
theorem vals_bytes (l : List Nat) (h : ∀ x ∈ l, x < 256) : valsB l = Lib.byteCells (l.map UInt8.ofNat) := by
  unfold valsB Lib.byteCells
  rw [List.map_map]
  refine List.map_congr_left (fun x hx => ?_)
  have := h x hx
  simp only [Function.comp]
  congr 1
  have : (UInt8.ofNat x).toNat = x := by simp; omega
  rw [this]
theorem ownF_below {w w' : World} {B : Nat} {e : TypeId} {v : Value} {n : Nat} {xs : List Value} (h : w.ownsRowF B e 1 v n xs) (hB : Below w.heap.size w w') : w'.ownsRowF B e 1 v n xs := by
  refine ⟨h.1, ?_⟩
  rcases h.2 with h0 | ⟨g, cap, cur, fz, hv, hb, hg, r⟩
  · exact .inl h0
  · refine .inr ⟨g, cap, cur, fz, hv, hb, ?_, r⟩
    rw [hB.block g (bu_lt hg)]
    exact hg
theorem bu_below {w w' : World} {B b : Nat} {bs : List Value} (h : Bu B b bs w) (hB : Below w.heap.size w w') : Bu B b bs w' := by
  rcases h with ⟨h1, v, h2, h3, h4⟩ | ⟨h1, v, h2, h3, h4⟩
  · exact .inl ⟨h1, v, by rw [hB.block _ (bu_lt h2)]; exact h2, ownF_below h3 hB, h4⟩
  · exact .inr ⟨h1, v, by rw [hB.block _ (bu_lt h2)]; exact h2, ownF_below h3 hB, h4⟩
theorem bu_blk {w : World} {B b : Nat} {bs : List Value} (h : Bu B b bs w) : b < w.heap.size := by
  rcases h with h | h <;> exact h.lt
theorem txt_cut (l : List Bool) (n : Nat) : ((txt l).extract (n * 2016) l.length).extract 0 (min (2016 : Int) ((l.length - n * 2016 : Nat) : Int)).toNat = txt (cutB l (2016 * n) 2016) := by
  rw [txt_extract, txt_extract]
  congr 1
  unfold cutB
  rw [List.drop_zero, Nat.mul_comm n 2016, List.take_take]
  have e : (min (2016 : Int) ((l.length - 2016 * n : Nat) : Int)).toNat = min 2016 (l.length - 2016 * n) := by omega
  rw [e, Nat.sub_zero]
  rcases Nat.le_total (l.length - 2016 * n) 2016 with h | h
  · rw [List.take_of_length_le (by simp; omega), List.take_of_length_le (by simp; omega)]
  · congr 1; omega
set_option maxHeartbeats 4000000 in
set_option maxRecDepth 100000 in
theorem pwrite_any (l : List Bool) (hl : l.length ≤ 2016000) (w : World) :
    Calls Tryz.prog 17 #[.string (txt l)] w fun e w' => e = .returned (.string (image l)) ∧ Below w.heap.size w w' := by
  have hts := txt_size l
  have hnp : npages l.length = (l.length + 2015) / 2016 := rfl
  go_enter Tryz.func17, Tryz.ntmps17
  go_wp2
  go_loopw [4] (fun si wr => ∃ n : Nat, n ≤ npages l.length ∧ si = .int .i64 (n : Int) ∧ Hid (Bu w.heap.size w.heap.size (valsB (pagesB l n)) wr ∧ Below w.heap.size w wr)) (fun si _ => npages l.length - (intOf si).toNat)
  case atStart => exact ⟨0, Nat.zero_le _, rfl, Lib.IsBuilderF.of (Lib.fresh_isBuilder 73 5 w), below1 _ _⟩
  case round =>
    obtain ⟨n, hn, rfl, HI⟩ := hrel
    by_cases hlt : n < npages l.length
    · have h1 : 2016 * n < l.length := by omega
      have hpl := pagesB_len l n
      have HPk : ∀ W, Hid (Calls Tryz.prog 30 #[.string (txt (cutB l (2016 * n) 2016))] W fun e w' => e = .returned (.agg (valsB (pageB l n 252)).toArray) ∧ Below W.heap.size W w') := fun W => (by
        have h := packed_any (cutB l (2016 * n) 2016) (cutB_len _ _ _) W
        rw [page_cut] at h
        exact h : Calls Tryz.prog 30 _ W _)
      have HSe : ∀ W, Hid (Calls Tryz.prog 29 _ W _) := fun W => sealed_any n (pageB l n 252) (by omega) (pageB_len _ _ _) (fun x hx => pageB_lt _ _ _ _ hx) W
      have HC : Hid _ := txt_cut l n
      go_wp2_with fail
      rw [HC.out]
      refine (Calls.mono (HPk wr).out ?_)
      rintro e w1 ⟨rfl, hB1⟩
      have H1 : Hid _ := hB1
      clear hB1
      go_wp2_with fail
      refine (Calls.mono (HSe w1).out ?_)
      rintro e w2 ⟨rfl, hB2⟩
      have hBr : Below wr.heap.size wr w2 := chain H1.out hB2
      have HBr : Hid _ := hBr
      have hwl : whole l n = pageB l n 252 ++ Crc.be4 (Crc.sumOf n (pageB l n 252)) := rfl
      rw [← hwl]
      have HSu : Hid _ := pagesB_succ l n
      have hwn : (valsB (whole l n)).length = 256 := by rw [hwl]; simp [valsB, pageB_len, Crc.be4]
      generalize whole l n = wh at HSu hwn
      clear hwl hBr hB2 H1 HPk HSe HC
      go_wp2_with fail
      rw [store_row (w2.alloc (.cells Tryz.zeroCells75 75)) w2.heap.size _ (valsB wh) 75 (heap_alloc_new _ _) (by rw [Tryz.zeroCells75_size]; exact hwn) (vals_one _), World.setRow_alloc_new]
      have hbb := bu_blk HI.out.1
      have hbs := HI.out.2.size
      have hrs := HBr.out.size
      have hB3 : Below wr.heap.size wr (w2.alloc (.cells (valsB wh).toArray 75)) := HBr.out.alloc hrs _
      have HW : Hid (Calls Tryz.prog 31 _ _ _) := wr_k w.heap.size w.heap.size (valsB (pagesB l n)) (valsB wh) w2.heap.size 256 256 (w2.alloc (.cells (valsB wh).toArray 75)) (bu_below HI.out.1 hB3) hwn (by decide) (fun w1 ho j u hu => by
        have hk := ho w2.heap.size _ (heap_alloc_new w2 _) (by simp; omega) (by intro c fz e; cases e)
        rw [addr_add, cell_of_row w1 w2.heap.size (0 + j) _ _ _ hk]
        simpa using hu) (vals_one _) (by rw [vals_len, hpl]; omega) (by simp; omega)
      have HB3 : Hid _ := HI.out.2.trans (hB3.mono hbs)
      clear hB3
      go_wp2_with fail
      refine (Calls.mono HW.out ?_)
      rintro e w3 ⟨rfl, hb3, hl3, ho3⟩
      have HI2 : Hid (Bu w.heap.size w.heap.size (valsB (pagesB l (n + 1))) w3 ∧ Below w.heap.size w w3) := (by
        rw [HSu.out, valsB_append]
        exact ⟨hb3, HB3.out.trans hl3⟩ : _ ∧ _)
      clear hb3 hl3 ho3
      go_wp2
      go_roundw
      case rel => exact ⟨n + 1, by omega, by go_num, HI2.out⟩
      case measure => simp [intOf]; omega
    · obtain rfl : n = npages l.length := by omega
      have h1 : ¬ ((npages l.length : Nat) : Int) * 2016 < (l.length : Int) := by omega
      have hv := vals_bytes (pagesB l (npages l.length)) (fun x hx => pagesB_lt l _ x hx)
      have hI := HI.out.1
      rw [hv] at hI
      have HSt : Hid (Calls Tryz.prog 32 _ wr _) := Tryz.Builder_String_any_k w.heap.size w.heap.size _ wr hI HI.out.2.size
      clear hv hI
      go_wp2_with fail
      refine (Calls.mono HSt.out ?_)
      rintro e w3 ⟨rfl, hb3, hl3, ho3⟩
      go_wp2
      go_ret
      exact ⟨rfl, HI.out.2.trans hl3⟩
end Go.Proofs.YtphjbbbnbmafnabGreatDoor.G
