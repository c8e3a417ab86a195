/-
  Where the targets of those edges of a span of places lie that have one label (Graph.targetsOf), and how many of them go to a span of nodes (Graph.count): new memory; nothing that was there is written.
  The program's Open: nil and ErrSize, ErrCorrupt or ErrShape, or the graph whose image was handed in, as it lies in memory; nothing that was there is written.
  Where the numbers of a sequence of 16 bits would be, if they were in order: whole, sortedSpan, placeOf: what they answer; nothing that was there is written.
-/
import Derived.Test.YtphjbbbnbmafnabGreatDoorPEo
import Derived.Test.YtphjbbbnbmafnabGreatDoorNewG
import Derived.Test.YtphjbbbnbmafnabGreatDoorPRead
import Derived.Test.YtphjbbbnbmafnabGreatDoorLeast16
namespace Go.Proofs.YtphjbbbnbmafnabGreatDoor.G
open Go.RowKit

set_option maxHeartbeats 2000000 in
theorem targets1_any {w : World} {b n s : Nat} {L : List E3} (h : GraphAt w b n s L) (B C F : Nat) (c f : Nat) (hc : c < 256) (hf : f ≤ 1000000) (hB : w.cell? ⟨B, 0, none⟩ = some (.pointer (some ⟨b, 0, none⟩))) (hC : w.cell? ⟨C, 0, none⟩ = some (.int .u8 (c : Int))) (hF : w.cell? ⟨F, 0, none⟩ = some (.int .i64 (f : Int))) (p : Nat) (hp : p ≤ L.length) :
    Calls Tryz.prog 139 #[.int .i64 (p : Int), .pointer (some ⟨B, 0, none⟩), .pointer (some ⟨C, 0, none⟩), .pointer (some ⟨F, 0, none⟩)] w fun r w' => r = .returned (.int .i64 ((f + cnt (eqf (labs L) c) p : Nat) : Int)) ∧ Below w.heap.size w w' := by
  obtain ⟨bl, gl, h4, hs⟩ := h.lab
  have hL := h.ok.1.2.2.2.2
  have hll : (labs L).length = L.length := by simp [labs]
  have HS : Hid _ := hs
  have HR : Hid (∀ W, SeqAt 8 W bl gl (labs L) → Calls Tryz.prog 136 #[.pointer (some ⟨bl, 0, none⟩), .int .u8 (c : Int), .int .i64 (p : Int)] W _) := fun W h => S8.rank_yes h c (by omega) p (by rw [hll]; exact hp)
  have hcn := cnt_le (eqf (labs L) c) p
  generalize cnt (eqf (labs L) c) p = k at HR hcn
  clear h hs hll
  go_enter Tryz.func139, Tryz.ntmps139
  go_wp2_with fail
  go_region_held3 (fun w' => w'.cell? ⟨B, 0, none⟩ = some (.pointer (some ⟨b, 0, none⟩)) ∧ w'.cell? ⟨C, 0, none⟩ = some (.int .u8 (c : Int)) ∧ w'.cell? ⟨F, 0, none⟩ = some (.int .i64 (f : Int)) ∧ w'.cell? ⟨b, 4, none⟩ = some (.pointer (some ⟨bl, 0, none⟩))) (go_keep)
    (first
      | (go_at_call 136; refine (HR.out _ ?_).mono ?_; exact (HS.out.kept (fun _ _ h => h)); rintro r w1 ⟨rfl, hB1d⟩; have hB1 := ((Below.refl w.heap.size w).drew).trans hB1d; have q1 := cell_kept hB1 _ _ hB; have q2 := cell_kept hB1 _ _ hC; have q3 := cell_kept hB1 _ _ hF; have q4 := cell_kept hB1 _ _ h4))
  have HB1 : Hid (Below w.heap.size w w1) := hB1
  clear hB1 hB1d
  go_wp2
  go_ret
  exact ⟨by go_num, HB1.out⟩
/-- a graph and the three boxes of targetsOf's closure -/
structure TgAt (w : World) (b n s : Nat) (L : List E3) (B C F c f : Nat) : Prop where
  g : GraphAt w b n s L
  hc : c < 256
  hf : f ≤ 1000000
  cB : w.cell? ⟨B, 0, none⟩ = some (.pointer (some ⟨b, 0, none⟩))
  cC : w.cell? ⟨C, 0, none⟩ = some (.int .u8 (c : Int))
  cF : w.cell? ⟨F, 0, none⟩ = some (.int .i64 (f : Int))
theorem TgAt.kept {w w' : World} {b n s : Nat} {L : List E3} {B C F c f : Nat} (h : TgAt w b n s L B C F c f) (hk : ∀ p v, w.cell? p = some v → w'.cell? p = some v) : TgAt w' b n s L B C F c f :=
  ⟨h.g.kept hk, h.hc, h.hf, hk _ _ h.cB, hk _ _ h.cC, hk _ _ h.cF⟩
theorem TgAt.below {w w' : World} {b n s : Nat} {L : List E3} {B C F c f : Nat} (h : TgAt w b n s L B C F c f) (hB : Below w.heap.size w w') : TgAt w' b n s L B C F c f := h.kept (cell_kept hB)
set_option maxHeartbeats 4000000 in
theorem ends_targets {w : World} {b n s : Nat} {L : List E3} {B C F c f : Nat} (h : TgAt w b n s L B C F c f) (x y : Nat) (hx : x ≤ L.length) (hy : y ≤ L.length) :
    Calls Tryz.prog 95 #[.agg #[.int .i64 (x : Int), .int .i64 (y : Int)], .func (.func 139) #[] #[.pointer (some ⟨B, 0, none⟩), .pointer (some ⟨C, 0, none⟩), .pointer (some ⟨F, 0, none⟩)]] w fun e w' => e = .returned (.agg #[.int .i64 ((f + cnt (eqf (labs L) c) x : Nat) : Int), .int .i64 ((f + cnt (eqf (labs L) c) y : Nat) : Int)]) ∧ Below w.heap.size w w' := by
  have hB := below2 w (.cells #[.int .i64 (x : Int), .int .i64 (y : Int)] 133) (.cells #[.int .i64 0, .int .i64 0] 133)
  have HB : Hid _ := hB
  have HG : Hid _ := h.below hB
  obtain ⟨k0, k1, k2, k3, m0, m1⟩ := two_spans w (.int .i64 (x : Int)) (.int .i64 (y : Int)) (.int .i64 0) (.int .i64 0) 133
  have HX : Hid (∀ W, TgAt W b n s L B C F c f → Calls Tryz.prog 139 #[.int .i64 (x : Int), .pointer (some ⟨B, 0, none⟩), .pointer (some ⟨C, 0, none⟩), .pointer (some ⟨F, 0, none⟩)] W _) := fun W h => targets1_any h.g B C F c f h.hc h.hf h.cB h.cC h.cF x hx
  have HY : Hid (∀ W, TgAt W b n s L B C F c f → Calls Tryz.prog 139 #[.int .i64 (y : Int), .pointer (some ⟨B, 0, none⟩), .pointer (some ⟨C, 0, none⟩), .pointer (some ⟨F, 0, none⟩)] W _) := fun W h => targets1_any h.g B C F c f h.hc h.hf h.cB h.cC h.cF y hy
  clear h hB hx hy
  go_enter Tryz.func95, Tryz.ntmps95
  go_wp2_with fail
  go_region_held3 (fun w' => w'.cell? ⟨w.heap.size, 0, none⟩ = some (.int .i64 (x : Int)) ∧ w'.cell? ⟨w.heap.size, 1, none⟩ = some (.int .i64 (y : Int))) (go_keep)
    (first
      | (go_at_call_of 139 (Value.int IntKind.i64 (x : Int)); refine (HX.out _ ?_).mono ?_; (first | exact (HG.out.kept (fun _ _ h => h)) | exact (HG.out.below hBy) | exact ((HG.out.below hBy).kept (fun _ _ h => h))); rintro r wx ⟨rfl, hB0x⟩; have hBx : Below ((w.alloc (.cells #[.int .i64 (x : Int), .int .i64 (y : Int)] 133)).alloc (.cells #[.int .i64 0, .int .i64 0] 133)).heap.size ((w.alloc (.cells #[.int .i64 (x : Int), .int .i64 (y : Int)] 133)).alloc (.cells #[.int .i64 0, .int .i64 0] 133)) wx := (by first | exact (((Below.refl _ _).drew).trans hB0x) | exact chain hBy hB0x | exact chain hBy (((Below.refl _ _).drew).trans hB0x)); have q1x := cell_kept hBx _ _ k0; have q2x := cell_kept hBx _ _ k1; have q3x := cell_kept hBx _ _ k2; have q4x := cell_kept hBx _ _ k3; have q5x := (hBx.frozen (p := ⟨w.heap.size + 1, 0, none⟩) (by simp)).trans m0; have q6x := (hBx.frozen (p := ⟨w.heap.size + 1, 1, none⟩) (by simp)).trans m1; have q7x := hBx.size)
      | (go_at_call_of 139 (Value.int IntKind.i64 (y : Int)); refine (HY.out _ ?_).mono ?_; (first | exact (HG.out.kept (fun _ _ h => h)) | exact (HG.out.below hBx) | exact ((HG.out.below hBx).kept (fun _ _ h => h))); rintro r wy ⟨rfl, hB0y⟩; have hBy : Below ((w.alloc (.cells #[.int .i64 (x : Int), .int .i64 (y : Int)] 133)).alloc (.cells #[.int .i64 0, .int .i64 0] 133)).heap.size ((w.alloc (.cells #[.int .i64 (x : Int), .int .i64 (y : Int)] 133)).alloc (.cells #[.int .i64 0, .int .i64 0] 133)) wy := (by first | exact (((Below.refl _ _).drew).trans hB0y) | exact chain hBx hB0y | exact chain hBx (((Below.refl _ _).drew).trans hB0y)); have q1y := cell_kept hBy _ _ k0; have q2y := cell_kept hBy _ _ k1; have q3y := cell_kept hBy _ _ k2; have q4y := cell_kept hBy _ _ k3; have q5y := (hBy.frozen (p := ⟨w.heap.size + 1, 0, none⟩) (by simp)).trans m0; have q6y := (hBy.frozen (p := ⟨w.heap.size + 1, 1, none⟩) (by simp)).trans m1; have q7y := hBy.size))
  all_goals
    go_wp2
    refine bodyPost_ret (v := .agg #[.int .i64 ((f + cnt (eqf (labs L) c) x : Nat) : Int), .int .i64 ((f + cnt (eqf (labs L) c) y : Nat) : Int)]) (by simp [results, Tryz.results95, go_sem, *]) rfl ?_
    first
      | exact ⟨rfl, ((chain HB.out hBy).setCell (p := ⟨w.heap.size + 1, 0, none⟩) (Nat.le_succ _) _).setCell (p := ⟨w.heap.size + 1, 1, none⟩) (Nat.le_succ _) _⟩
      | exact ⟨rfl, ((chain HB.out hBx).setCell (p := ⟨w.heap.size + 1, 0, none⟩) (Nat.le_succ _) _).setCell (p := ⟨w.heap.size + 1, 1, none⟩) (Nat.le_succ _) _⟩
end Go.Proofs.YtphjbbbnbmafnabGreatDoor.G

namespace Go.Proofs.YtphjbbbnbmafnabGreatDoor.G
open Go.RowKit

/-- what an Open answers -/
def OpenPost (G : World → Nat → Nat → Nat → List E3 → Prop) (img : ByteArray) (w : World) (e : Ending) (w' : World) : Prop :=
  Below w.heap.size w w' ∧
  ((¬ sizeOkI img ∧ e = .returned (.tuple #[.pointer none, .int .i64 3])) ∨
   (sizeOkI img ∧ (∃ p < img.size / 256, ¬ pageOk img p) ∧ e = .returned (.tuple #[.pointer none, .int .i64 4])) ∨
   (sizeOkI img ∧ (∀ p < img.size / 256, pageOk img p) ∧ (∀ n s L, ¬ Is img n s L) ∧ e = .returned (.tuple #[.pointer none, .int .i64 5])) ∨
   (∃ n s L b, Is img n s L ∧ e = .returned (.tuple #[.pointer (some ⟨b, 0, none⟩), .int .i64 0]) ∧ G w' b n s L))
theorem own_edges {B : Nat} {wr : World} {v : Value} {l : List E3} (h : wr.ownsRow B 41 3 v l.length (flat l)) : EdgesAt wr v l := by
  rcases h.2 with ⟨rfl, h0⟩ | ⟨g, cap, cur, rfl, _, hg, r1, r2, r3, r4⟩
  · obtain rfl : l = [] := List.eq_nil_of_length_eq_zero h0
    exact ⟨none, 0, rfl, fun j e hj => by cases hj⟩
  · refine ⟨some ⟨g, 0, none⟩, cap, rfl, fun j e hj => ⟨g, 0, rfl, ?_⟩⟩
    have hR : RowE wr g cap l := ⟨cur, hg, r3, r4⟩
    rw [Nat.zero_add]
    exact hR.cells hj
theorem same_bytes (a b : ByteArray) (h : a = b) : (a.toList == b.toList) = true := by subst h; simp
theorem other_bytes (a b : ByteArray) (h : ¬ a = b) : (a.toList == b.toList) = false := by
  rw [ByteArray.toList_eq, ByteArray.toList_eq]
  refine beq_eq_false_iff_ne.2 (fun e => h ?_)
  obtain ⟨⟨x⟩⟩ := a
  obtain ⟨⟨y⟩⟩ := b
  simp only at e
  rw [e]
theorem is_img {img : ByteArray} {n s : Nat} {L : List E3} (h : Is img n s L) : imgOf n s L = img ∧ errOf n s L = 0 := by
  refine ⟨?_, by unfold errOf; rw [if_pos h.1]⟩
  unfold imgOf
  rw [if_pos h.1, Int.toNat_natCast, Int.toNat_natCast, built, Gm.ordE_self L h.2.1]
  exact h.2.2.symm
set_option maxHeartbeats 1000000 in
set_option maxRecDepth 100000 in
theorem open_size (img : ByteArray) (w : World) (hs : ¬ sizeOkI img) (hb : img.size ≤ 9223372036854775807) : Calls Tryz.prog 7 #[.string img] w (OpenPost GraphAt img w) := by
  have HP : Hid (Calls Tryz.prog 20 _ w _) := pread_size img w hs hb
  have HS : Hid _ := hs
  clear hs
  go_enter Tryz.func7, Tryz.ntmps7
  go_wp2_with fail
  refine (Calls.mono HP.out ?_)
  rintro e w1 ⟨rfl, hw⟩
  rw [hw]
  clear hw w1
  go_wp2
  go_ret2
  exact ⟨Below.refl _ _, .inl ⟨HS.out, rfl⟩⟩
set_option maxHeartbeats 8000000 in
set_option maxRecDepth 100000 in
theorem open_any (img : ByteArray) (w : World) (hb : img.size ≤ 9223372036854775807) : Calls Tryz.prog 7 #[.string img] w (OpenPost GraphAt img w) := by
  by_cases hs : sizeOkI img
  case neg => exact open_size img w hs hb
  obtain ⟨np, hnp⟩ : ∃ np, img.size = 256 * np := ⟨img.size / 256, by have := hs.2.1; omega⟩
  have hn0 : np ≠ 0 := by have := hs.1; omega
  have hn1 : np ≤ 1000 := by have := hs.2.2; omega
  have HP : Hid (Calls Tryz.prog 20 _ w _) := pread_any img w np hnp hn0 hn1
  have hdiv : img.size / 256 = np := by omega
  have HD : Hid _ := hdiv
  have HS : Hid _ := hs
  have HNp : Hid _ := hnp
  clear hs hdiv hnp
  go_enter Tryz.func7, Tryz.ntmps7
  go_wp2_with fail
  refine (Calls.mono HP.out ?_)
  rintro e w1 ⟨⟨hp, rfl⟩ | ⟨hp, rfl⟩, hB1⟩
  · have HC : Hid _ := hp
    have HB : Hid _ := hB1
    clear hp hB1
    go_wp2
    go_ret2
    exact ⟨HB.out, .inr (.inl ⟨HS.out, by rw [HD.out]; exact HC.out, rfl⟩)⟩
  · have HC : Hid _ := hp
    have HB1 : Hid _ := hB1
    obtain ⟨t, ht⟩ : ∃ t, t = textN img np := ⟨_, rfl⟩
    have HT : Hid _ := ht
    have htl : t.length = 2016 * np := by rw [ht]; exact textN_len _ _
    have HTl : Hid _ := htl
    rw [← ht]
    clear hp hB1 ht htl
    have hr1 : Rd w1.heap.size t 0 (w1.alloc (.cells #[.string (txt t), .int .i64 0] 52)) := heap_alloc_new _ _
    have HSz : Hid (Calls Tryz.prog 21 _ _ _) := rdsize_any w1.heap.size t _ hr1 (by rw [HTl.out]; omega)
    clear hr1
    go_wp2_with fail
    refine (Calls.mono HSz.out ?_)
    rintro e w2 ⟨rfl, hr2, hg2⟩
    obtain ⟨n, hn⟩ : ∃ n, n = numOf (sub t 0 14) := ⟨_, rfl⟩
    obtain ⟨s, hs⟩ : ∃ s, s = numOf (sub t 14 5) := ⟨_, rfl⟩
    obtain ⟨E, hE⟩ : ∃ E, E = numOf (sub t 19 15) := ⟨_, rfl⟩
    rw [← hn, ← hs, ← hE]
    have HN : Hid _ := hn
    have HSn : Hid _ := hs
    have HEn : Hid _ := hE
    have hn14 : n < 16384 := by rw [hn]; have := numOf_lt (sub t 0 14); rw [sub_len] at this; exact this
    have hs5 : s < 32 := by rw [hs]; have := numOf_lt (sub t 14 5); rw [sub_len] at this; exact this
    have hE15 : E < 32768 := by rw [hE]; have := numOf_lt (sub t 19 15); rw [sub_len] at this; exact this
    clear hn hs hE
    have hb2 : Below w.heap.size w w2 := (HB1.out.alloc HB1.out.size (.cells #[.string (txt t), .int .i64 0] 52)).grown hg2 (by have := HB1.out.size; simp; omega) (fun k hk => by cases hk; exact HB1.out.size)
    have hs2 := hg2.size
    have HB3 : Hid _ := hb2.alloc hb2.size (.cells #[.int .i64 (n : Int), .int .i64 (s : Int), .int .i64 (E : Int)] 43)
    have HR3 : Hid _ := rd_kept hr2 (World.grownBy_alloc w2 (.cells #[.int .i64 (n : Int), .int .i64 (s : Int), .int .i64 (E : Int)] 43) none) (by simp)
    have HBx : Hid ((w2.alloc (.cells #[.int .i64 (n : Int), .int .i64 (s : Int), .int .i64 (E : Int)] 43)).heap[w2.heap.size]? = some (.cells #[.int .i64 (n : Int), .int .i64 (s : Int), .int .i64 (E : Int)] 43 (0, 0))) := heap_alloc_new _ _
    have hlt12 : w1.heap.size < w2.heap.size := by simp at hs2; omega
    have HIs : Hid (Calls Tryz.prog 15 _ (w2.alloc (.cells #[.int .i64 (n : Int), .int .i64 (s : Int), .int .i64 (E : Int)] 43)) _) := isize_any n s E _
    clear hr2 hg2 hs2 hb2 HSz
    -- no graph is written so, or it is the one that was read
    have HUn : Hid (∀ n' s' L, Is img n' s' L → n' = n ∧ s' = s ∧ L.length = E ∧ Gm.sizeOk n s E ∧ ∀ K, Stop t 34 n E K → edg t 34 n s K = L) := (by
      intro n' s' L h
      obtain ⟨a1, a2, a3, a4⟩ := h.read HNp.out
      rw [← HT.out] at a1 a2 a3 a4
      rw [← HN.out] at a1
      rw [← HSn.out] at a2
      rw [← HEn.out] at a3
      subst a1 a2
      refine ⟨rfl, rfl, a3.symm, by rw [a3]; exact h.1.1, fun K hK => (a4 K (by rw [← a3]; exact hK)).1⟩ : ∀ n' s' L, _)
    by_cases hok : Gm.sizeOk n s E
    · rw [decide_eq_true hok] at HIs
      have HOk : Hid _ := hok
      have hok1 : 1 ≤ n ∧ n ≤ 10000 ∧ 1 ≤ s ∧ s ≤ 26 ∧ E ≤ 20000 := by obtain ⟨k1, k2, k3, k4, k5⟩ := hok; omega
      clear hok
      go_wp2_with fail
      refine (Calls.mono HIs.out ?_)
      rintro e w4 ⟨rfl, hB4⟩
      have hbx4 := (hB4.block w2.heap.size (by simp)).trans HBx.out
      have HR4 : Hid (Rd w1.heap.size t (mv t 0 34) w4) := ((hB4.block w1.heap.size (by simp; omega)).trans HR3.out : Rd _ _ _ _)
      have HB4 : Hid _ := chain' HB3.out hB4 (by have := HB3.out.size; omega)
      have HBx4 : Hid _ := hbx4
      have z0 : w4.cell? ⟨w2.heap.size, 0, none⟩ = some (.int .i64 (n : Int)) := by rw [cell_of_row w4 _ 0 _ _ _ hbx4]; rfl
      have z1 : w4.cell? ⟨w2.heap.size, 1, none⟩ = some (.int .i64 (s : Int)) := by rw [cell_of_row w4 _ 1 _ _ _ hbx4]; rfl
      have z2 : w4.cell? ⟨w2.heap.size, 2, none⟩ = some (.int .i64 (E : Int)) := by rw [cell_of_row w4 _ 2 _ _ _ hbx4]; rfl
      have HEd : Hid (Calls Tryz.prog 22 _ w4 _) := rdedges_any w1.heap.size t 34 n s E w4 HR4.out (by rw [HTl.out]; omega) ⟨hok1.1, hok1.2.1⟩ ⟨hok1.2.2.1, hok1.2.2.2.1⟩ hok1.2.2.2.2
      clear hB4 hbx4 HIs
      go_wp2_with fail
      refine (Calls.mono HEd.out ?_)
      rintro e w5 ⟨K, v5, a5, hK, rfl, hrow5, hr5, hg5⟩
      have hE5 : EdgesAt w5 v5 (edg t 34 n s K) := own_edges hrow5
      obtain ⟨l, hl⟩ : ∃ l, l = edg t 34 n s K := ⟨_, rfl⟩
      rw [← hl] at hE5
      have HL : Hid _ := hl
      have HK : Hid _ := hK
      have HB5 : Hid _ := HB4.out.grown hg5 HB4.out.size (fun k hk => by cases hk; exact HB1.out.size)
      have hlt4 := (Array.getElem?_eq_some_iff.1 HBx4.out).1
      have hbx5 := (hg5.block w2.heap.size hlt4 (by simp; omega)).trans HBx4.out
      have HBx5 : Hid _ := hbx5
      have HE5 : Hid _ := hE5
      have HBd : Hid (Calls Tryz.prog 5 _ w5 _) := build_any n s l v5 w5 hE5
      clear z0 z1 z2 hrow5 hr5 hg5 hK hl hlt4 HEd
      have z0 : w5.cell? ⟨w2.heap.size, 0, none⟩ = some (.int .i64 (n : Int)) := by rw [cell_of_row w5 _ 0 _ _ _ hbx5]; rfl
      have z1 : w5.cell? ⟨w2.heap.size, 1, none⟩ = some (.int .i64 (s : Int)) := by rw [cell_of_row w5 _ 1 _ _ _ hbx5]; rfl
      clear hbx5 hE5
      go_wp2_with fail
      refine (Calls.mono HBd.out ?_)
      rintro e w6 ⟨rfl, hB6⟩
      have HB6 : Hid _ := chain HB5.out hB6
      have hbx6 := (hB6.block w2.heap.size (Array.getElem?_eq_some_iff.1 HBx5.out).1).trans HBx5.out
      have HE6 : Hid _ := EdgesAt.below HE5.out hB6
      clear z0 z1 hB6 HBd
      have z0 : w6.cell? ⟨w2.heap.size, 0, none⟩ = some (.int .i64 (n : Int)) := by rw [cell_of_row w6 _ 0 _ _ _ hbx6]; rfl
      have z1 : w6.cell? ⟨w2.heap.size, 1, none⟩ = some (.int .i64 (s : Int)) := by rw [cell_of_row w6 _ 1 _ _ _ hbx6]; rfl
      clear hbx6
      by_cases hgood : okG n s l
      · have he0 : errOf n s l = 0 := by unfold errOf; rw [if_pos hgood]
        rw [he0]
        by_cases himg : imgOf n s l = img
        · have HIs : Hid (Is img n s l) := (by
            have h := again_is (np := np) HNp.out (K := K) (by rw [← HT.out, ← HN.out, ← HEn.out]; exact HK.out) (by rw [← HT.out, ← HN.out, ← HSn.out, ← HL.out]; exact hgood) (by rw [← HT.out, ← HN.out, ← HSn.out, ← HL.out]; exact himg)
            rw [← HT.out, ← HN.out, ← HSn.out, ← HL.out] at h
            exact h : Is _ _ _ _)
          have HNg : Hid (Calls Tryz.prog 23 _ w6 _) := newgraph_any n s l v5 w6 HE6.out HIs.out.1 HIs.out.2.1
          have hne := same_bytes _ _ himg
          generalize imgOf n s l = again at hne
          clear himg hgood he0
          go_wp2_with fail
          refine (Calls.mono HNg.out ?_)
          rintro e w7 ⟨b, rfl, hgr, hB7⟩
          have HGr : Hid _ := hgr
          have HB7 : Hid _ := chain HB6.out hB7
          clear hgr hB7
          go_wp2
          go_ret2
          exact ⟨HB7.out, .inr (.inr (.inr ⟨n, s, l, b, HIs.out, rfl, HGr.out⟩))⟩
        · have HNo : Hid (∀ n' s' L, ¬ Is img n' s' L) := (fun n' s' L h => by
            obtain ⟨rfl, rfl, h3, h4, h5⟩ := HUn.out n' s' L h
            have h6 := h5 K HK.out
            rw [← HL.out] at h6
            subst h6
            exact himg (is_img h).1 : ∀ n' s' L, _)
          have hne := other_bytes _ _ himg
          generalize imgOf n s l = again at hne
          clear himg hgood he0
          go_wp2
          go_ret2
          exact ⟨HB6.out, .inr (.inr (.inl ⟨HS.out, by rw [HD.out]; exact HC.out, HNo.out, rfl⟩))⟩
      · have HNo : Hid (∀ n' s' L, ¬ Is img n' s' L) := (fun n' s' L h => by
          obtain ⟨rfl, rfl, h3, h4, h5⟩ := HUn.out n' s' L h
          have h6 := h5 K HK.out
          rw [← HL.out] at h6
          subst h6
          exact hgood h.1 : ∀ n' s' L, _)
        have he0 : errOf n s l = 2 := by unfold errOf; rw [if_neg hgood]
        rw [he0]
        clear hgood he0
        generalize imgOf n s l = again
        go_wp2
        go_ret2
        exact ⟨HB6.out, .inr (.inr (.inl ⟨HS.out, by rw [HD.out]; exact HC.out, HNo.out, rfl⟩))⟩
    · rw [decide_eq_false hok] at HIs
      have HNo : Hid (∀ n' s' L, ¬ Is img n' s' L) := (fun n' s' L h => hok (HUn.out n' s' L h).2.2.2.1 : ∀ n' s' L, _)
      clear hok
      go_wp2_with fail
      refine (Calls.mono HIs.out ?_)
      rintro e w4 ⟨rfl, hB4⟩
      have HB4 : Hid _ := chain' HB3.out hB4 (by have := HB3.out.size; omega)
      clear hB4
      go_wp2
      go_ret2
      exact ⟨HB4.out, .inr (.inr (.inl ⟨HS.out, by rw [HD.out]; exact HC.out, HNo.out, rfl⟩))⟩
end Go.Proofs.YtphjbbbnbmafnabGreatDoor.G

namespace Go.Proofs.YtphjbbbnbmafnabGreatDoor.S16
open Go.RowKit Go.Proofs.YtphjbbbnbmafnabGreatDoor

attribute [local go_sem ↓] Go.wp_at_zero Go.wp_at_succ
/-- the value of the method Below of a sequence -/
abbrev belowV (b : Nat) : Value := .func (.func 119) #[.pointer (some ⟨b, 0, none⟩)] #[]
set_option maxHeartbeats 1000000 in
theorem spansort1_any {w : World} {b g : Nat} {l : List Nat} (hs : SeqAt 16 w b g l) (x y : Nat) (hxy : x ≤ y) (hy : y ≤ l.length) (F X : Nat) (hF : w.cell? ⟨F, 0, none⟩ = some (belowV b)) (hX0 : w.cell? ⟨X, 0, none⟩ = some (.int .i64 (x : Int))) (hX1 : w.cell? ⟨X, 1, none⟩ = some (.int .i64 (y : Int))) (c : Nat) (hc : c < 2 ^ 16) :
    Calls Tryz.prog 140 #[.int .i64 (c : Int), .pointer (some ⟨F, 0, none⟩), .pointer (some ⟨X, 0, none⟩)] w fun e w' => e = .returned (.int .i64 (bel l x y c : Int)) ∧ Below w.heap.size w w' := by
  have HL : Hid (Calls Tryz.prog 119 _ w _) := below_yes hs c x y hc hxy hy
  have hb := bel_le l x y c
  have hn := hs.hn
  have hc2 : c < 65536 := hc
  clear hs
  go_enter Tryz.func140, Tryz.ntmps140
  go_wp2_with fail
  refine (Calls.mono HL.out ?_)
  rintro e w1 ⟨rfl, hB1⟩
  have HB1 : Hid _ := hB1
  clear hB1
  go_wp2
  go_ret
  exact ⟨rfl, HB1.out⟩
set_option maxHeartbeats 4000000 in
theorem ends_span {w : World} {b g : Nat} {l : List Nat} (hs : SeqAt 16 w b g l) (x y : Nat) (hxy : x ≤ y) (hy : y ≤ l.length) (F X : Nat) (hF : w.cell? ⟨F, 0, none⟩ = some (belowV b)) (hX0 : w.cell? ⟨X, 0, none⟩ = some (.int .i64 (x : Int))) (hX1 : w.cell? ⟨X, 1, none⟩ = some (.int .i64 (y : Int))) (a d : Nat) (ha : a < 2 ^ 16) (hd : d < 2 ^ 16) :
    Calls Tryz.prog 95 #[.agg #[.int .i64 (a : Int), .int .i64 (d : Int)], .func (.func 140) #[] #[.pointer (some ⟨F, 0, none⟩), .pointer (some ⟨X, 0, none⟩)]] w fun e w' => e = .returned (.agg #[.int .i64 (bel l x y a : Int), .int .i64 (bel l x y d : Int)]) ∧ Below w.heap.size w w' := by
  have hB := G.below2 w (.cells #[.int .i64 (a : Int), .int .i64 (d : Int)] 133) (.cells #[.int .i64 0, .int .i64 0] 133)
  have HB : Hid _ := hB
  have HS : Hid _ := hs.below hB
  have HF : Hid _ := cell_kept hB _ _ hF
  have HX0 : Hid _ := cell_kept hB _ _ hX0
  have HX1 : Hid _ := cell_kept hB _ _ hX1
  obtain ⟨k0, k1, k2, k3, m0, m1⟩ := G.two_spans w (.int .i64 (a : Int)) (.int .i64 (d : Int)) (.int .i64 0) (.int .i64 0) 133
  have HA : Hid (∀ W, Below ((w.alloc (.cells #[.int .i64 (a : Int), .int .i64 (d : Int)] 133)).alloc (.cells #[.int .i64 0, .int .i64 0] 133)).heap.size ((w.alloc (.cells #[.int .i64 (a : Int), .int .i64 (d : Int)] 133)).alloc (.cells #[.int .i64 0, .int .i64 0] 133)) W → Calls Tryz.prog 140 #[.int .i64 (a : Int), .pointer (some ⟨F, 0, none⟩), .pointer (some ⟨X, 0, none⟩)] W _) := fun W h => spansort1_any (HS.out.below h) x y hxy hy F X (cell_kept h _ _ HF.out) (cell_kept h _ _ HX0.out) (cell_kept h _ _ HX1.out) a ha
  have HD : Hid (∀ W, Below ((w.alloc (.cells #[.int .i64 (a : Int), .int .i64 (d : Int)] 133)).alloc (.cells #[.int .i64 0, .int .i64 0] 133)).heap.size ((w.alloc (.cells #[.int .i64 (a : Int), .int .i64 (d : Int)] 133)).alloc (.cells #[.int .i64 0, .int .i64 0] 133)) W → Calls Tryz.prog 140 #[.int .i64 (d : Int), .pointer (some ⟨F, 0, none⟩), .pointer (some ⟨X, 0, none⟩)] W _) := fun W h => spansort1_any (HS.out.below h) x y hxy hy F X (cell_kept h _ _ HF.out) (cell_kept h _ _ HX0.out) (cell_kept h _ _ HX1.out) d hd
  clear hs hB hF hX0 hX1
  go_enter Tryz.func95, Tryz.ntmps95
  go_wp2_with fail
  go_region_held3 (fun w' => w'.cell? ⟨w.heap.size, 0, none⟩ = some (.int .i64 (a : Int)) ∧ w'.cell? ⟨w.heap.size, 1, none⟩ = some (.int .i64 (d : Int))) (go_keep)
    (first
      | (go_at_call_of 140 (Value.int IntKind.i64 (a : Int)); refine (HA.out _ ?_).mono ?_; (first | exact (Below.refl _ _).drew | exact hBd | exact hBd.drew); rintro r wa ⟨rfl, hB0a⟩; have hBa : Below ((w.alloc (.cells #[.int .i64 (a : Int), .int .i64 (d : Int)] 133)).alloc (.cells #[.int .i64 0, .int .i64 0] 133)).heap.size ((w.alloc (.cells #[.int .i64 (a : Int), .int .i64 (d : Int)] 133)).alloc (.cells #[.int .i64 0, .int .i64 0] 133)) wa := (by first | exact (((Below.refl _ _).drew).trans hB0a) | exact chain hBd hB0a | exact chain hBd (((Below.refl _ _).drew).trans hB0a)); have q1a := cell_kept hBa _ _ k0; have q2a := cell_kept hBa _ _ k1; have q3a := cell_kept hBa _ _ k2; have q4a := cell_kept hBa _ _ k3; have q5a := (hBa.frozen (p := ⟨w.heap.size + 1, 0, none⟩) (by simp)).trans m0; have q6a := (hBa.frozen (p := ⟨w.heap.size + 1, 1, none⟩) (by simp)).trans m1; have q7a := hBa.size)
      | (go_at_call_of 140 (Value.int IntKind.i64 (d : Int)); refine (HD.out _ ?_).mono ?_; (first | exact (Below.refl _ _).drew | exact hBa | exact hBa.drew); rintro r wd ⟨rfl, hB0d⟩; have hBd : Below ((w.alloc (.cells #[.int .i64 (a : Int), .int .i64 (d : Int)] 133)).alloc (.cells #[.int .i64 0, .int .i64 0] 133)).heap.size ((w.alloc (.cells #[.int .i64 (a : Int), .int .i64 (d : Int)] 133)).alloc (.cells #[.int .i64 0, .int .i64 0] 133)) wd := (by first | exact (((Below.refl _ _).drew).trans hB0d) | exact chain hBa hB0d | exact chain hBa (((Below.refl _ _).drew).trans hB0d)); have q1d := cell_kept hBd _ _ k0; have q2d := cell_kept hBd _ _ k1; have q3d := cell_kept hBd _ _ k2; have q4d := cell_kept hBd _ _ k3; have q5d := (hBd.frozen (p := ⟨w.heap.size + 1, 0, none⟩) (by simp)).trans m0; have q6d := (hBd.frozen (p := ⟨w.heap.size + 1, 1, none⟩) (by simp)).trans m1; have q7d := hBd.size))
  all_goals
    go_wp2
    refine bodyPost_ret (v := .agg #[.int .i64 (bel l x y a : Int), .int .i64 (bel l x y d : Int)]) (by simp [results, Tryz.results95, go_sem, *]) rfl ?_
    first
      | exact ⟨rfl, ((chain HB.out hBd).setCell (p := ⟨w.heap.size + 1, 0, none⟩) (Nat.le_succ _) _).setCell (p := ⟨w.heap.size + 1, 1, none⟩) (Nat.le_succ _) _⟩
      | exact ⟨rfl, ((chain HB.out hBa).setCell (p := ⟨w.heap.size + 1, 0, none⟩) (Nat.le_succ _) _).setCell (p := ⟨w.heap.size + 1, 1, none⟩) (Nat.le_succ _) _⟩
set_option maxHeartbeats 2000000 in
theorem spansort_any {w : World} {b g : Nat} {l : List Nat} (hs : SeqAt 16 w b g l) (x y : Nat) (hxy : x ≤ y) (hy : y ≤ l.length) (a d : Nat) (ha : a < 2 ^ 16) (hd : d < 2 ^ 16) :
    Calls Tryz.prog 118 #[belowV b, .agg #[.int .i64 (x : Int), .int .i64 (y : Int)], .agg #[.int .i64 (a : Int), .int .i64 (d : Int)]] w fun e w' => e = .returned (.agg #[.int .i64 (bel l x y a : Int), .int .i64 (bel l x y d : Int)]) ∧ Below w.heap.size w w' := by
  have hb1 := G.below1 w (.cells #[belowV b] 202)
  have hb2 := hb1.alloc hb1.size (.cells #[.int .i64 (x : Int), .int .i64 (y : Int)] 133)
  have hb3 := hb2.alloc hb2.size (.cells #[.int .i64 (a : Int), .int .i64 (d : Int)] 133)
  have hb4 := hb3.alloc hb3.size (.cells #[.int .i64 0, .int .i64 0] 133)
  generalize hw4 : (((w.alloc (.cells #[belowV b] 202)).alloc (.cells #[.int .i64 (x : Int), .int .i64 (y : Int)] 133)).alloc (.cells #[.int .i64 (a : Int), .int .i64 (d : Int)] 133)).alloc (.cells #[.int .i64 0, .int .i64 0] 133) = w4 at hb4
  have e0 : w4.heap[w.heap.size]? = some (.cells #[belowV b] 202 (0, 0)) := by
    rw [← hw4, G.old_alloc (by simp <;> omega), G.old_alloc (by simp <;> omega), G.old_alloc (by simp)]; exact heap_alloc_new _ _
  have e1 : w4.heap[w.heap.size + 1]? = some (.cells #[.int .i64 (x : Int), .int .i64 (y : Int)] 133 (0, 0)) := by
    rw [← hw4, G.old_alloc (by simp <;> omega), G.old_alloc (by simp)]
    have := heap_alloc_new (w.alloc (.cells #[belowV b] 202)) (.cells #[.int .i64 (x : Int), .int .i64 (y : Int)] 133)
    rwa [World.size_alloc] at this
  have e3 : w4.heap[w.heap.size + 3]? = some (.cells #[.int .i64 0, .int .i64 0] 133 (0, 0)) := by
    rw [← hw4]
    have := heap_alloc_new (((w.alloc (.cells #[belowV b] 202)).alloc (.cells #[.int .i64 (x : Int), .int .i64 (y : Int)] 133)).alloc (.cells #[.int .i64 (a : Int), .int .i64 (d : Int)] 133)) (.cells #[.int .i64 0, .int .i64 0] 133)
    rwa [World.size_alloc, World.size_alloc, World.size_alloc] at this
  have f0 : w4.cell? ⟨w.heap.size, 0, none⟩ = some (belowV b) := by rw [cell_of_row _ _ 0 _ _ _ e0]; rfl
  have f1 : w4.cell? ⟨w.heap.size + 1, 0, none⟩ = some (.int .i64 (x : Int)) := by rw [cell_of_row _ _ 0 _ _ _ e1]; rfl
  have f2 : w4.cell? ⟨w.heap.size + 1, 1, none⟩ = some (.int .i64 (y : Int)) := by rw [cell_of_row _ _ 1 _ _ _ e1]; rfl
  have HE : Hid (Calls Tryz.prog 95 _ w4 _) := ends_span (hs.below hb4) x y hxy hy w.heap.size (w.heap.size + 1) f0 f1 f2 a d ha hd
  rw [← hw4] at HE
  have HB4 : Hid _ := hb4
  have HE3 : Hid _ := e3
  have HW4 : Hid _ := hw4
  clear hs hb1 hb2 hb3 hb4 e0 e1 e3 f0 f1 f2 hw4
  go_enter Tryz.func118, Tryz.ntmps118
  go_wp2_with fail
  refine (Calls.mono HE.out ?_)
  rw [HW4.out]
  rintro e w5 ⟨rfl, hB5⟩
  have h3 := (hB5.block _ (Array.getElem?_eq_some_iff.1 HE3.out).1).trans HE3.out
  have y0 : w5.cell? ⟨w.heap.size + 3, 0, none⟩ = some (.int .i64 0) := by rw [cell_of_row w5 _ 0 _ _ _ h3]; rfl
  have y1 : w5.cell? ⟨w.heap.size + 3, 1, none⟩ = some (.int .i64 0) := by rw [cell_of_row w5 _ 1 _ _ _ h3]; rfl
  have z0 := frozen_of_row w5 _ 0 _ _ h3
  have z1 := frozen_of_row w5 _ 1 _ _ h3
  have hs5 := (Array.getElem?_eq_some_iff.1 h3).1
  have HB5 : Hid _ := chain HB4.out hB5
  clear hB5 h3
  go_wp2
  refine bodyPost_ret (v := .agg #[.int .i64 (bel l x y a : Int), .int .i64 (bel l x y d : Int)]) (by simp [results, Tryz.results118, go_sem, *]) rfl ?_
  exact ⟨rfl, (HB5.out.setCell (p := ⟨w.heap.size + 3, 0, none⟩) (Nat.le_add_right _ _) _).setCell (p := ⟨w.heap.size + 3, 1, none⟩) (Nat.le_add_right _ _) _⟩
end Go.Proofs.YtphjbbbnbmafnabGreatDoor.S16
