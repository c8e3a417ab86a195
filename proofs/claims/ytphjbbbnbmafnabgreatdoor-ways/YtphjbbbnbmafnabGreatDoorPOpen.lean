/-
  The program's Open: nil and ErrSize, ErrCorrupt or ErrShape, or the graph whose image was handed in, as it lies in memory; nothing that was there is written.
-/
import Derived.Test.YtphjbbbnbmafnabGreatDoorNewG
import Derived.Test.YtphjbbbnbmafnabGreatDoorPRead
namespace Go.Proofs.YtphjbbbnbmafnabGreatDoor.G
open Go.RowKit

/-- what an Open answers -/
def OpenPost (G : World → Nat → Nat → Nat → List E3 → Prop) (img : ByteArray) (w : World) (e : Ending) (w' : World) : Prop :=
  Below w.heap.size w w' ∧
  ((¬ sizeOkI img ∧ e = .returned (.tuple #[.pointer none, .int .i64 3])) ∨
   (sizeOkI img ∧ (∃ p < img.size / 256, ¬ pageOk img p) ∧ e = .returned (.tuple #[.pointer none, .int .i64 4])) ∨
   (sizeOkI img ∧ (∀ p < img.size / 256, pageOk img p) ∧ (∀ n s L, ¬ Is img n s L) ∧ e = .returned (.tuple #[.pointer none, .int .i64 5])) ∨
   (∃ n s L b, Is img n s L ∧ e = .returned (.tuple #[.pointer (some ⟨b, 0, none⟩), .int .i64 0]) ∧ G w' b n s L))
theorem own_edges {B : Nat} {wr : World} {v : Value} {l : List E3} (h : wr.ownsRow B 41 3 v l.length (flat l)) : EdgesAt wr v l := by
  rcases h.2 with ⟨rfl, h0⟩ | ⟨g, cap, cur, rfl, _, hg, r1, r2, r3, r4⟩
  · obtain rfl : l = [] := List.eq_nil_of_length_eq_zero h0
    exact ⟨none, 0, rfl, fun j e hj => by cases hj⟩
  · refine ⟨some ⟨g, 0, none⟩, cap, rfl, fun j e hj => ⟨g, 0, rfl, ?_⟩⟩
    have hR : RowE wr g cap l := ⟨cur, hg, r3, r4⟩
    rw [Nat.zero_add]
    exact hR.cells hj
theorem same_bytes (a b : ByteArray) (h : a = b) : (a.toList == b.toList) = true := by subst h; simp
theorem other_bytes (a b : ByteArray) (h : ¬ a = b) : (a.toList == b.toList) = false := by
  rw [ByteArray.toList_eq, ByteArray.toList_eq]
  refine beq_eq_false_iff_ne.2 (fun e => h ?_)
  obtain ⟨⟨x⟩⟩ := a
  obtain ⟨⟨y⟩⟩ := b
  simp only at e
  rw [e]
theorem is_img {img : ByteArray} {n s : Nat} {L : List E3} (h : Is img n s L) : imgOf n s L = img ∧ errOf n s L = 0 := by
  refine ⟨?_, by unfold errOf; rw [if_pos h.1]⟩
  unfold imgOf
  rw [if_pos h.1, Int.toNat_natCast, Int.toNat_natCast, built, Gm.ordE_self L h.2.1]
  exact h.2.2.symm
set_option maxHeartbeats 1000000 in
set_option maxRecDepth 100000 in
theorem open_size (img : ByteArray) (w : World) (hs : ¬ sizeOkI img) (hb : img.size ≤ 9223372036854775807) : Calls Tryz.prog 7 #[.string img] w (OpenPost GraphAt img w) := by
  have HP : Hid (Calls Tryz.prog 20 _ w _) := pread_size img w hs hb
  have HS : Hid _ := hs
  clear hs
  go_enter Tryz.func7, Tryz.ntmps7
  go_wp2_with fail
  refine (Calls.mono HP.out ?_)
  rintro e w1 ⟨rfl, hw⟩
  rw [hw]
  clear hw w1
  go_wp2
  go_ret2
  exact ⟨Below.refl _ _, .inl ⟨HS.out, rfl⟩⟩
set_option maxHeartbeats 8000000 in
set_option maxRecDepth 100000 in
theorem open_any (img : ByteArray) (w : World) (hb : img.size ≤ 9223372036854775807) : Calls Tryz.prog 7 #[.string img] w (OpenPost GraphAt img w) := by
  by_cases hs : sizeOkI img
  case neg => exact open_size img w hs hb
  obtain ⟨np, hnp⟩ : ∃ np, img.size = 256 * np := ⟨img.size / 256, by have := hs.2.1; omega⟩
  have hn0 : np ≠ 0 := by have := hs.1; omega
  have hn1 : np ≤ 1000 := by have := hs.2.2; omega
  have HP : Hid (Calls Tryz.prog 20 _ w _) := pread_any img w np hnp hn0 hn1
  have hdiv : img.size / 256 = np := by omega
  have HD : Hid _ := hdiv
  have HS : Hid _ := hs
  have HNp : Hid _ := hnp
  clear hs hdiv hnp
  go_enter Tryz.func7, Tryz.ntmps7
  go_wp2_with fail
  refine (Calls.mono HP.out ?_)
  rintro e w1 ⟨⟨hp, rfl⟩ | ⟨hp, rfl⟩, hB1⟩
  · have HC : Hid _ := hp
    have HB : Hid _ := hB1
    clear hp hB1
    go_wp2
    go_ret2
    exact ⟨HB.out, .inr (.inl ⟨HS.out, by rw [HD.out]; exact HC.out, rfl⟩)⟩
  · have HC : Hid _ := hp
    have HB1 : Hid _ := hB1
    obtain ⟨t, ht⟩ : ∃ t, t = textN img np := ⟨_, rfl⟩
    have HT : Hid _ := ht
    have htl : t.length = 2016 * np := by rw [ht]; exact textN_len _ _
    have HTl : Hid _ := htl
    rw [← ht]
    clear hp hB1 ht htl
    have hr1 : Rd w1.heap.size t 0 (w1.alloc (.cells #[.string (txt t), .int .i64 0] 52)) := heap_alloc_new _ _
    have HSz : Hid (Calls Tryz.prog 21 _ _ _) := rdsize_any w1.heap.size t _ hr1 (by rw [HTl.out]; omega)
    clear hr1
    go_wp2_with fail
    refine (Calls.mono HSz.out ?_)
    rintro e w2 ⟨rfl, hr2, hg2⟩
    obtain ⟨n, hn⟩ : ∃ n, n = numOf (sub t 0 14) := ⟨_, rfl⟩
    obtain ⟨s, hs⟩ : ∃ s, s = numOf (sub t 14 5) := ⟨_, rfl⟩
    obtain ⟨E, hE⟩ : ∃ E, E = numOf (sub t 19 15) := ⟨_, rfl⟩
    rw [← hn, ← hs, ← hE]
    have HN : Hid _ := hn
    have HSn : Hid _ := hs
    have HEn : Hid _ := hE
    have hn14 : n < 16384 := by rw [hn]; have := numOf_lt (sub t 0 14); rw [sub_len] at this; exact this
    have hs5 : s < 32 := by rw [hs]; have := numOf_lt (sub t 14 5); rw [sub_len] at this; exact this
    have hE15 : E < 32768 := by rw [hE]; have := numOf_lt (sub t 19 15); rw [sub_len] at this; exact this
    clear hn hs hE
    have hb2 : Below w.heap.size w w2 := (HB1.out.alloc HB1.out.size (.cells #[.string (txt t), .int .i64 0] 52)).grown hg2 (by have := HB1.out.size; simp; omega) (fun k hk => by cases hk; exact HB1.out.size)
    have hs2 := hg2.size
    have HB3 : Hid _ := hb2.alloc hb2.size (.cells #[.int .i64 (n : Int), .int .i64 (s : Int), .int .i64 (E : Int)] 43)
    have HR3 : Hid _ := rd_kept hr2 (World.grownBy_alloc w2 (.cells #[.int .i64 (n : Int), .int .i64 (s : Int), .int .i64 (E : Int)] 43) none) (by simp)
    have HBx : Hid ((w2.alloc (.cells #[.int .i64 (n : Int), .int .i64 (s : Int), .int .i64 (E : Int)] 43)).heap[w2.heap.size]? = some (.cells #[.int .i64 (n : Int), .int .i64 (s : Int), .int .i64 (E : Int)] 43 (0, 0))) := heap_alloc_new _ _
    have hlt12 : w1.heap.size < w2.heap.size := by simp at hs2; omega
    have HIs : Hid (Calls Tryz.prog 15 _ (w2.alloc (.cells #[.int .i64 (n : Int), .int .i64 (s : Int), .int .i64 (E : Int)] 43)) _) := isize_any n s E _
    clear hr2 hg2 hs2 hb2 HSz
    -- no graph is written so, or it is the one that was read
    have HUn : Hid (∀ n' s' L, Is img n' s' L → n' = n ∧ s' = s ∧ L.length = E ∧ Gm.sizeOk n s E ∧ ∀ K, Stop t 34 n E K → edg t 34 n s K = L) := (by
      intro n' s' L h
      obtain ⟨a1, a2, a3, a4⟩ := h.read HNp.out
      rw [← HT.out] at a1 a2 a3 a4
      rw [← HN.out] at a1
      rw [← HSn.out] at a2
      rw [← HEn.out] at a3
      subst a1 a2
      refine ⟨rfl, rfl, a3.symm, by rw [a3]; exact h.1.1, fun K hK => (a4 K (by rw [← a3]; exact hK)).1⟩ : ∀ n' s' L, _)
    by_cases hok : Gm.sizeOk n s E
    · rw [decide_eq_true hok] at HIs
      have HOk : Hid _ := hok
      have hok1 : 1 ≤ n ∧ n ≤ 10000 ∧ 1 ≤ s ∧ s ≤ 26 ∧ E ≤ 20000 := by obtain ⟨k1, k2, k3, k4, k5⟩ := hok; omega
      clear hok
      go_wp2_with fail
      refine (Calls.mono HIs.out ?_)
      rintro e w4 ⟨rfl, hB4⟩
      have hbx4 := (hB4.block w2.heap.size (by simp)).trans HBx.out
      have HR4 : Hid (Rd w1.heap.size t (mv t 0 34) w4) := ((hB4.block w1.heap.size (by simp; omega)).trans HR3.out : Rd _ _ _ _)
      have HB4 : Hid _ := chain' HB3.out hB4 (by have := HB3.out.size; omega)
      have HBx4 : Hid _ := hbx4
      have z0 : w4.cell? ⟨w2.heap.size, 0, none⟩ = some (.int .i64 (n : Int)) := by rw [cell_of_row w4 _ 0 _ _ _ hbx4]; rfl
      have z1 : w4.cell? ⟨w2.heap.size, 1, none⟩ = some (.int .i64 (s : Int)) := by rw [cell_of_row w4 _ 1 _ _ _ hbx4]; rfl
      have z2 : w4.cell? ⟨w2.heap.size, 2, none⟩ = some (.int .i64 (E : Int)) := by rw [cell_of_row w4 _ 2 _ _ _ hbx4]; rfl
      have HEd : Hid (Calls Tryz.prog 22 _ w4 _) := rdedges_any w1.heap.size t 34 n s E w4 HR4.out (by rw [HTl.out]; omega) ⟨hok1.1, hok1.2.1⟩ ⟨hok1.2.2.1, hok1.2.2.2.1⟩ hok1.2.2.2.2
      clear hB4 hbx4 HIs
      go_wp2_with fail
      refine (Calls.mono HEd.out ?_)
      rintro e w5 ⟨K, v5, a5, hK, rfl, hrow5, hr5, hg5⟩
      have hE5 : EdgesAt w5 v5 (edg t 34 n s K) := own_edges hrow5
      obtain ⟨l, hl⟩ : ∃ l, l = edg t 34 n s K := ⟨_, rfl⟩
      rw [← hl] at hE5
      have HL : Hid _ := hl
      have HK : Hid _ := hK
      have HB5 : Hid _ := HB4.out.grown hg5 HB4.out.size (fun k hk => by cases hk; exact HB1.out.size)
      have hlt4 := (Array.getElem?_eq_some_iff.1 HBx4.out).1
      have hbx5 := (hg5.block w2.heap.size hlt4 (by simp; omega)).trans HBx4.out
      have HBx5 : Hid _ := hbx5
      have HE5 : Hid _ := hE5
      have HBd : Hid (Calls Tryz.prog 5 _ w5 _) := build_any n s l v5 w5 hE5
      clear z0 z1 z2 hrow5 hr5 hg5 hK hl hlt4 HEd
      have z0 : w5.cell? ⟨w2.heap.size, 0, none⟩ = some (.int .i64 (n : Int)) := by rw [cell_of_row w5 _ 0 _ _ _ hbx5]; rfl
      have z1 : w5.cell? ⟨w2.heap.size, 1, none⟩ = some (.int .i64 (s : Int)) := by rw [cell_of_row w5 _ 1 _ _ _ hbx5]; rfl
      clear hbx5 hE5
      go_wp2_with fail
      refine (Calls.mono HBd.out ?_)
      rintro e w6 ⟨rfl, hB6⟩
      have HB6 : Hid _ := chain HB5.out hB6
      have hbx6 := (hB6.block w2.heap.size (Array.getElem?_eq_some_iff.1 HBx5.out).1).trans HBx5.out
      have HE6 : Hid _ := EdgesAt.below HE5.out hB6
      clear z0 z1 hB6 HBd
      have z0 : w6.cell? ⟨w2.heap.size, 0, none⟩ = some (.int .i64 (n : Int)) := by rw [cell_of_row w6 _ 0 _ _ _ hbx6]; rfl
      have z1 : w6.cell? ⟨w2.heap.size, 1, none⟩ = some (.int .i64 (s : Int)) := by rw [cell_of_row w6 _ 1 _ _ _ hbx6]; rfl
      clear hbx6
      by_cases hgood : okG n s l
      · have he0 : errOf n s l = 0 := by unfold errOf; rw [if_pos hgood]
        rw [he0]
        by_cases himg : imgOf n s l = img
        · have HIs : Hid (Is img n s l) := (by
            have h := again_is (np := np) HNp.out (K := K) (by rw [← HT.out, ← HN.out, ← HEn.out]; exact HK.out) (by rw [← HT.out, ← HN.out, ← HSn.out, ← HL.out]; exact hgood) (by rw [← HT.out, ← HN.out, ← HSn.out, ← HL.out]; exact himg)
            rw [← HT.out, ← HN.out, ← HSn.out, ← HL.out] at h
            exact h : Is _ _ _ _)
          have HNg : Hid (Calls Tryz.prog 23 _ w6 _) := newgraph_any n s l v5 w6 HE6.out HIs.out.1 HIs.out.2.1
          have hne := same_bytes _ _ himg
          generalize imgOf n s l = again at hne
          clear himg hgood he0
          go_wp2_with fail
          refine (Calls.mono HNg.out ?_)
          rintro e w7 ⟨b, rfl, hgr, hB7⟩
          have HGr : Hid _ := hgr
          have HB7 : Hid _ := chain HB6.out hB7
          clear hgr hB7
          go_wp2
          go_ret2
          exact ⟨HB7.out, .inr (.inr (.inr ⟨n, s, l, b, HIs.out, rfl, HGr.out⟩))⟩
        · have HNo : Hid (∀ n' s' L, ¬ Is img n' s' L) := (fun n' s' L h => by
            obtain ⟨rfl, rfl, h3, h4, h5⟩ := HUn.out n' s' L h
            have h6 := h5 K HK.out
            rw [← HL.out] at h6
            subst h6
            exact himg (is_img h).1 : ∀ n' s' L, _)
          have hne := other_bytes _ _ himg
          generalize imgOf n s l = again at hne
          clear himg hgood he0
          go_wp2
          go_ret2
          exact ⟨HB6.out, .inr (.inr (.inl ⟨HS.out, by rw [HD.out]; exact HC.out, HNo.out, rfl⟩))⟩
      · have HNo : Hid (∀ n' s' L, ¬ Is img n' s' L) := (fun n' s' L h => by
          obtain ⟨rfl, rfl, h3, h4, h5⟩ := HUn.out n' s' L h
          have h6 := h5 K HK.out
          rw [← HL.out] at h6
          subst h6
          exact hgood h.1 : ∀ n' s' L, _)
        have he0 : errOf n s l = 2 := by unfold errOf; rw [if_neg hgood]
        rw [he0]
        clear hgood he0
        generalize imgOf n s l = again
        go_wp2
        go_ret2
        exact ⟨HB6.out, .inr (.inr (.inl ⟨HS.out, by rw [HD.out]; exact HC.out, HNo.out, rfl⟩))⟩
    · rw [decide_eq_false hok] at HIs
      have HNo : Hid (∀ n' s' L, ¬ Is img n' s' L) := (fun n' s' L h => hok (HUn.out n' s' L h).2.2.2.1 : ∀ n' s' L, _)
      clear hok
      go_wp2_with fail
      refine (Calls.mono HIs.out ?_)
      rintro e w4 ⟨rfl, hB4⟩
      have HB4 : Hid _ := chain' HB3.out hB4 (by have := HB3.out.size; omega)
      clear hB4
      go_wp2
      go_ret2
      exact ⟨HB4.out, .inr (.inr (.inl ⟨HS.out, by rw [HD.out]; exact HC.out, HNo.out, rfl⟩))⟩
end Go.Proofs.YtphjbbbnbmafnabGreatDoor.G
