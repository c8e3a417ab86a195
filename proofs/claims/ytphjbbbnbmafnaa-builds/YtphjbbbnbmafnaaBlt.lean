/-
  trellislaw.built: one Build held against the document's: they give the same, and what was handed in reads as it did; nothing that was there is written.
-/
import Derived.Test.YtphjbbbnbmafnaaLentE
namespace Go.Proofs.Ytphjbbbnbmafnaa.G
open Go.RowKit

set_option maxHeartbeats 400000 in
theorem num_any (n : Int) (w : World) : Calls Try.prog 15 #[.int .i64 n] w fun e w' => e = .returned (.int .i64 n) ∧ w' = w := by
  go_enter Try.func15, Try.ntmps15
  go_wp2
  go_ret
  exact ⟨rfl, rfl⟩
theorem RowE.edges {W : World} {g cap : Nat} {L : List E3} (h : RowE W g cap L) (k cap' : Nat) (hk : k ≤ L.length) : EdgesAt W (.slice (some ⟨g, 0, none⟩) k cap') (L.take k) := by
  refine ⟨_, cap', by rw [List.length_take, Nat.min_eq_left hk], fun j e hj => ⟨g, 0, rfl, ?_⟩⟩
  rw [Nat.zero_add]
  refine h.cells ?_
  rw [List.getElem?_take] at hj
  split at hj
  · exact hj
  · cases hj
theorem RowE.below {W W' : World} {g cap : Nat} {L : List E3} (h : RowE W g cap L) (hB : Below W.heap.size W W') : RowE W' g cap L := by
  obtain ⟨cur, hg, r⟩ := h
  exact ⟨cur, by rw [hB.block g (Array.getElem?_eq_some_iff.1 hg).1]; exact hg, r⟩
/-- what the owner has written over, and what is left -/
def overE (l : List E3) (i : Nat) : List E3 := List.replicate i (-1, 0, 0) ++ (fullE l).drop i
theorem overE_len (l : List E3) (i : Nat) (h : i ≤ l.length + 8) : (overE l i).length = l.length + 8 := by
  unfold overE; simp [fullE_len]; omega
theorem overE_at {l : List E3} {i : Nat} {x : E3} (h : (fullE l)[i]? = some x) : (overE l i)[i]? = some x := by
  unfold overE
  rw [List.getElem?_append_right (by simp)]
  simp [h]
theorem overE_step {l : List E3} {i : Nat} {x : E3} (h : (fullE l)[i]? = some x) : (overE l i).set i (-1, 0, 0) = overE l (i + 1) := by
  unfold overE
  rw [List.set_append_right _ _ (by simp)]
  obtain ⟨hi, _⟩ := List.getElem?_eq_some_iff.1 h
  rw [List.length_replicate, Nat.sub_self, List.drop_eq_getElem_cons hi, List.set_cons_zero, List.replicate_succ']
  simp
set_option maxHeartbeats 4000000 in
set_option maxRecDepth 100000 in
theorem built_any (n s : Int) (l : List E3) (v : Value) (w : World) (he : EdgesAt w v l) (hcap : CapOk v) (hlen : l.length * 24 ≤ 140737488351232) :
    Calls Try.prog 37 #[.int .i64 n, .int .i64 s, v] w fun e w' => e = .returned (.tuple #[.string (imgOf n s l), .bool true]) ∧ Below w.heap.size w w' := by
  have HEd : Hid _ := he
  have HCp : Hid _ := hcap
  have HLe : Hid (Calls Try.prog 67 _ w _) := lentE_any l v w he hlen
  obtain ⟨a0, cap, rfl, hed⟩ := he
  have HE : Hid _ := hed
  have HNm : ∀ (q : Int) W, Hid (Calls Try.prog 15 #[.int .i64 q] W _) := fun q W => num_any q W
  clear hed hcap
  go_enter Try.func37, Try.ntmps37
  go_wp2_with fail
  refine (Calls.mono HLe.out ?_)
  rintro e w1 ⟨rfl, hR1, hB1⟩
  have hE1 : EdgesAt w1 (.slice (some ⟨w.heap.size, 0, none⟩) l.length (l.length + 8)) l := by
    have h := hR1.edges l.length (l.length + 8) (by rw [fullE_len]; omega)
    rwa [show (fullE l).take l.length = l by unfold fullE; simp] at h
  have HBd : Hid (Calls Try.prog 39 _ w1 _) := build_any n s l _ w1 hE1
  have HR1 : Hid _ := hR1
  have HB1 : Hid _ := hB1
  have hll : l.length ≤ l.length + 8 := by omega
  clear hR1 hB1 hE1 HLe
  go_wp2_with fail
  refine (Calls.mono HBd.out ?_)
  rintro e w2 ⟨rfl, hB2⟩
  have HB2 : Hid _ := chain HB1.out hB2
  have HR2 : Hid _ := RowE.below HR1.out hB2
  have HRb : Hid (Calls Try.prog 68 _ w2 _) := rbuild_any n s l _ w2 (EdgesAt.below HEd.out HB2.out) HCp.out
  clear hB2 HR1 HBd
  go_wp2_with fail
  refine (Calls.mono HRb.out ?_)
  rintro e w3 ⟨rfl, hB3⟩
  have HB3 : Hid _ := chain HB2.out hB3
  have HR3 : Hid _ := RowE.below HR2.out hB3
  clear hB3 HR2 HRb
  generalize himg : imgOf n s l = img
  generalize herr : errOf n s l = er
  have HIm : Hid _ := himg
  clear himg herr
  go_wp2_with fail
  refine (Calls.mono (HNm er w3).out ?_)
  rintro e wx ⟨rfl, hw⟩
  rw [hw]
  clear hw wx
  go_wp2_with fail
  refine (Calls.mono (HNm er w3).out ?_)
  rintro e wx ⟨rfl, hw⟩
  rw [hw]
  clear hw wx
  go_wp2
  go_loopw [13, 14] (fun so si wr => ∃ i : Nat, i ≤ l.length + 8 ∧ si = .int .i64 (i : Int) ∧ so = .bool true ∧ Hid (RowE wr w.heap.size (l.length + 8) (overE l i) ∧ Below w.heap.size w wr)) (fun _ si _ => l.length + 8 - (intOf si).toNat)
  case atStart => exact ⟨0, Nat.zero_le _, rfl, rfl, by rw [show overE l 0 = fullE l from List.nil_append _]; exact ⟨HR3.out, HB3.out⟩⟩
  case round =>
    obtain ⟨i, hi, rfl, rfl, HI⟩ := hrel
    by_cases hlt : i < l.length + 8
    · obtain ⟨x, hx⟩ : ∃ x, (fullE l)[i]? = some x := ⟨_, List.getElem?_eq_getElem (by rw [fullE_len]; exact hlt)⟩
      have hiI : (i : Int) < (l.length : Int) + 8 := by omega
      have hiI2 : (i : Int) < ((l.length + 8 : Nat) : Int) := by omega
      have HSt : Hid _ := overE_step hx
      have HOv : Hid _ := overE_at hx
      have gE := guardE
      have hil : i < (overE l i).length := by rw [overE_len l i hi]; exact hlt
      by_cases hlo : i < l.length
      · have hxl : l[i]? = some x := by
          have h := hx
          unfold fullE at h
          rwa [List.getElem?_append_left hlo] at h
        obtain ⟨g, off, rfl, b0, b1, b2⟩ := HE.out i x hxl
        have d0 := cell_al (o := .cells #[.int .i64 77, .int .i64 78, .int .i64 79] 112) (cell_kept HI.out.2 _ _ b0)
        have d1 := cell_al (o := .cells #[.int .i64 77, .int .i64 78, .int .i64 79] 112) (cell_kept HI.out.2 _ _ b1)
        have d2 := cell_al (o := .cells #[.int .i64 77, .int .i64 78, .int .i64 79] 112) (cell_kept HI.out.2 _ _ b2)
        obtain ⟨x1, x2, x3⟩ := x
        simp only at d0 d1 d2
        have hloI : (i : Int) < (l.length : Int) := by omega
        clear hx hxl b0 b1 b2
        have hRx : RowE (wr.alloc (.cells #[.int .i64 x1, .int .i64 x2, .int .i64 x3] 112)) w.heap.size (l.length + 8) (overE l i) := RowE.below HI.out.1 (below1 _ _)
        have hBx : Below w.heap.size w (wr.alloc (.cells #[.int .i64 x1, .int .i64 x2, .int .i64 x3] 112)) := HI.out.2.alloc HI.out.2.size _
        have HRx : Hid _ := hRx
        have HBx : Hid _ := hBx
        obtain ⟨b0, b1, b2⟩ := box3 wr (.int .i64 x1) (.int .i64 x2) (.int .i64 x3) 112
        clear hRx hBx
        go_upto_region 11 with fail
        generalize wr.alloc (.cells #[.int .i64 x1, .int .i64 x2, .int .i64 x3] 112) = W2 at HRx HBx b0 b1 b2 ⊢
        obtain ⟨c0, c1, c2⟩ := RowE.cells HRx.out HOv.out
        have f0 := RowE.frozen HRx.out (i * 3)
        have f1 := RowE.frozen HRx.out (i * 3 + 1)
        have f2 := RowE.frozen HRx.out (i * 3 + 2)
        simp only at c0 c1 c2
        have hEq := eqlE x1 x2 x3 x1 x2 x3 true (decide_eq_true rfl)
        go_quiet (fail)
        go_wp2
        have HP : Hid _ := (RowE.drewN HRx.out nq).put (k := i) (-1, 0, 0) hil
        go_roundw
        case rel =>
          refine ⟨i + 1, by omega, by go_num, rfl, ?_⟩
          have h := HP.out
          rw [HSt.out] at h
          exact (show _ ∧ _ from ⟨h, (((below_dn HBx.out nq).setCell (p := ⟨w.heap.size, i * 3, none⟩) (Nat.le_refl _) _).setCell (p := ⟨w.heap.size, i * 3 + 1, none⟩) (Nat.le_refl _) _).setCell (p := ⟨w.heap.size, i * 3 + 2, none⟩) (Nat.le_refl _) _⟩)
        case measure => simp [intOf] <;> omega
      · have hx7 : x = (77, 78, 79) := by
          have h := hx
          unfold fullE at h
          rw [List.getElem?_append_right (by omega), List.getElem?_replicate, if_pos (by omega)] at h
          exact (Option.some.inj h).symm
        have hloI : ¬ (i : Int) < (l.length : Int) := by omega
        clear hx
        obtain ⟨x1, x2, x3⟩ := x
        obtain ⟨rfl, rfl, rfl⟩ : x1 = 77 ∧ x2 = 78 ∧ x3 = 79 := by simpa using hx7
        clear hx7
        have hRx : RowE (wr.alloc (.cells #[.int .i64 77, .int .i64 78, .int .i64 79] 112)) w.heap.size (l.length + 8) (overE l i) := RowE.below HI.out.1 (below1 _ _)
        have hBx : Below w.heap.size w (wr.alloc (.cells #[.int .i64 77, .int .i64 78, .int .i64 79] 112)) := HI.out.2.alloc HI.out.2.size _
        have HRx : Hid _ := hRx
        have HBx : Hid _ := hBx
        obtain ⟨b0, b1, b2⟩ := box3 wr (.int .i64 77) (.int .i64 78) (.int .i64 79) 112
        clear hRx hBx
        go_upto_region 11 with fail
        generalize wr.alloc (.cells #[.int .i64 77, .int .i64 78, .int .i64 79] 112) = W2 at HRx HBx b0 b1 b2 ⊢
        obtain ⟨c0, c1, c2⟩ := RowE.cells HRx.out HOv.out
        have f0 := RowE.frozen HRx.out (i * 3)
        have f1 := RowE.frozen HRx.out (i * 3 + 1)
        have f2 := RowE.frozen HRx.out (i * 3 + 2)
        simp only at c0 c1 c2
        have hEq := eqlE 77 78 79 77 78 79 true (decide_eq_true rfl)
        go_quiet (fail)
        go_wp2
        have HP : Hid _ := (RowE.drewN HRx.out nq).put (k := i) (-1, 0, 0) hil
        go_roundw
        case rel =>
          refine ⟨i + 1, by omega, by go_num, rfl, ?_⟩
          have h := HP.out
          rw [HSt.out] at h
          exact (show _ ∧ _ from ⟨h, (((below_dn HBx.out nq).setCell (p := ⟨w.heap.size, i * 3, none⟩) (Nat.le_refl _) _).setCell (p := ⟨w.heap.size, i * 3 + 1, none⟩) (Nat.le_refl _) _).setCell (p := ⟨w.heap.size, i * 3 + 2, none⟩) (Nat.le_refl _) _⟩)
        case measure => simp [intOf] <;> omega
    · obtain rfl : i = l.length + 8 := by omega
      have hiI : ¬ ((l.length + 8 : Nat) : Int) < (l.length : Int) + 8 := by omega
      have HBf : Hid _ := HI.out.2
      clear HI
      go_wp2
      go_ret2
      exact ⟨by rw [HIm.out]; rfl, HBf.out⟩
end Go.Proofs.Ytphjbbbnbmafnaa.G
