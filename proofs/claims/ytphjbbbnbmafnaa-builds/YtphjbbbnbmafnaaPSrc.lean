/-
  The program's text of where edges are from (sourcesText), over edges that lie in memory by where they are from; nothing that was there is written.
-/
import Derived.Test.YtphjbbbnbmafnaaPTxt
namespace Go.Proofs.Ytphjbbbnbmafnaa.G
open Go.RowKit

theorem valsT_bytes (l : List Bool) : valsT l = Lib.byteCells (l.map fun b => if b then (49 : UInt8) else 48) := by
  unfold valsT Lib.byteCells
  rw [List.map_map]
  refine List.map_congr_left (fun b _ => ?_)
  cases b <;> rfl
theorem valsT_ones (l : List Bool) (j : Nat) : valsT (l ++ List.replicate (j + 1) true) = valsT (l ++ List.replicate j true) ++ [.int .u8 49] := by
  rw [List.replicate_succ', ← List.append_assoc, valsT_append]; rfl
set_option maxHeartbeats 4000000 in
set_option maxRecDepth 100000 in
theorem srctext_any (n : Nat) (l : List E3) (v : Value) (w : World) (he : EdgesAt w v l) (hr : Gm.Rising l) (h0 : Gm.ah l 0 = 0) (hn : n ≤ 100000) (hl : l.length ≤ 100000) :
    Calls Try.prog 97 #[.int .i64 (n : Int), v] w fun e w' => e = .returned (.string (txt (srcs l n))) ∧ Below w.heap.size w w' := by
  obtain ⟨a0, cap, rfl, hed⟩ := he
  have HE : Hid _ := hed
  have HR : Hid _ := hr
  have HL : ∀ u, Hid ((srcs l u).length = Gm.ah l u + u) := fun u => srcs_len l h0 u
  have HA : Hid _ := h0
  clear hed hr h0
  go_enter Try.func97, Try.ntmps97
  go_wp2
  go_loopw [6, 9] (fun sa su wr => ∃ u : Nat, u ≤ n ∧ su = .int .i64 (u : Int) ∧ sa = .int .i64 (Gm.ah l u : Int) ∧ Hid (Bu w.heap.size w.heap.size (valsT (srcs l u)) wr ∧ Below w.heap.size w wr)) (fun _ su _ => n - (intOf su).toNat)
  case atStart => exact ⟨0, Nat.zero_le _, rfl, by rw [HA.out]; rfl, Lib.IsBuilderF.of (Lib.fresh_isBuilder 138 5 w), below1 _ _⟩
  case round =>
    obtain ⟨u, hu, rfl, rfl, HI⟩ := hrel
    by_cases hlt : u < n
    · have hm := Gm.ah_mono l (show u ≤ u + 1 by omega)
      have hle := Gm.ah_le l (u + 1)
      have hsl := (HL u).out
      have HS : Hid (srcs l (u + 1) = srcs l u ++ (List.replicate (Gm.ah l (u + 1) - Gm.ah l u) true ++ [false])) := (rfl : srcs l (u + 1) = _)
      have HAt : Hid (∀ i e, l[i]? = some e → Gm.ah l u ≤ i → (e.1 = (u : Int) ↔ i < Gm.ah l (u + 1))) := (fun i e hie hi => by
        have h1 := Gm.ah_at l u i e HR.out hie
        have h2 := Gm.ah_at l (u + 1) i e HR.out hie
        omega : ∀ i e, l[i]? = some e → Gm.ah l u ≤ i → (e.1 = (u : Int) ↔ i < Gm.ah l (u + 1)))
      generalize ha : Gm.ah l u = a at hm hsl HS HAt
      generalize hb : Gm.ah l (u + 1) = b at hm hle HS HAt
      have HBq : Hid _ := hb
      clear ha hb HL
      go_wp2
      go_loopw [6] (fun sa wq => ∃ j : Nat, j ≤ b - a ∧ sa = .int .i64 ((a + j : Nat) : Int) ∧ Hid (Bu w.heap.size w.heap.size (valsT (srcs l u ++ List.replicate j true)) wq ∧ Below w.heap.size w wq)) (fun sa _ => b - (intOf sa).toNat)
      case atStart => exact ⟨0, Nat.zero_le _, rfl, by rw [show srcs l u ++ List.replicate 0 true = srcs l u by simp]; exact HI.out⟩
      case round =>
        obtain ⟨j, hj, rfl, HJ⟩ := hrel
        by_cases hlt2 : a + j < b
        · obtain ⟨x, hx⟩ : ∃ x, l[a + j]? = some x := ⟨_, List.getElem?_eq_getElem (by omega)⟩
          obtain ⟨g, off, rfl, c0, c1, c2⟩ := HE.out (a + j) x hx
          have hfrom := (HAt.out (a + j) x hx (by omega)).2 hlt2
          have d0 := cell_kept HJ.out.2 _ _ c0
          rw [hfrom] at d0
          have hjl : ((a + j : Nat) : Int) < (l.length : Int) := by omega
          have HW : Hid (Calls Try.prog 119 _ wr _) := wb_k w.heap.size w.heap.size _ 49 wr HJ.out.1 (by rw [valsT_len]; simp; omega) HJ.out.2.size
          clear c0 c1 c2 hx hfrom
          go_wp2_with fail
          refine (Calls.mono HW.out ?_)
          rintro e w2 ⟨rfl, hb2, hl2, ho2⟩
          have HJ2 : Hid (Bu w.heap.size w.heap.size (valsT (srcs l u ++ List.replicate (j + 1) true)) w2 ∧ Below w.heap.size w w2) := (by
            rw [valsT_ones]
            exact ⟨hb2, HJ.out.2.trans hl2⟩ : _ ∧ _)
          clear hb2 hl2 ho2
          go_wp2
          go_roundw
          case rel => exact ⟨j + 1, by omega, by go_num, HJ2.out⟩
          case measure => simp [intOf] <;> omega
        · have hjb0 : a + j = b := by omega
          have HJB : Hid (a + j = b) := hjb0
          have HW : Hid (Calls Try.prog 119 _ wr _) := wb_k w.heap.size w.heap.size _ 48 wr HJ.out.1 (by rw [valsT_len]; simp; omega) HJ.out.2.size
          have HS2 : Hid (valsT (srcs l (u + 1)) = valsT (srcs l u ++ List.replicate j true) ++ [.int .u8 48]) := (by
            rw [HS.out, ← List.append_assoc, valsT_append _ [false], show b - a = j by omega]; rfl : _ = _)
          clear hjb0
          by_cases hend : a + j < l.length
          · obtain ⟨x, hx⟩ : ∃ x, l[a + j]? = some x := ⟨_, List.getElem?_eq_getElem hend⟩
            obtain ⟨g, off, rfl, c0, c1, c2⟩ := HE.out (a + j) x hx
            have hfrom : ¬ x.1 = (u : Int) := fun e => hlt2 ((HAt.out (a + j) x hx (by omega)).1 e)
            have hfb : (x.1 == (u : Int)) = false := by simpa using hfrom
            have d0 := cell_kept HJ.out.2 _ _ c0
            have hjl : ((a + j : Nat) : Int) < (l.length : Int) := by omega
            obtain ⟨x1, x2, x3⟩ := x
            simp only at d0 hfb hfrom
            clear c0 c1 c2 hx
            go_wp2_with fail
            refine (Calls.mono HW.out ?_)
            rintro e w2 ⟨rfl, hb2, hl2, ho2⟩
            have HJ2 : Hid (Bu w.heap.size w.heap.size (valsT (srcs l (u + 1))) w2 ∧ Below w.heap.size w w2) := (by
              rw [HS2.out]
              exact ⟨hb2, HJ.out.2.trans hl2⟩ : _ ∧ _)
            clear hb2 hl2 ho2
            go_wp2
            go_roundw
            case rel => exact ⟨u + 1, by omega, by go_num, by rw [HBq.out, ← HJB.out]; go_num, HJ2.out⟩
            case measure => simp [intOf] <;> omega
          · have hjl : ¬ ((a + j : Nat) : Int) < (l.length : Int) := by omega
            go_wp2_with fail
            refine (Calls.mono HW.out ?_)
            rintro e w2 ⟨rfl, hb2, hl2, ho2⟩
            have HJ2 : Hid (Bu w.heap.size w.heap.size (valsT (srcs l (u + 1))) w2 ∧ Below w.heap.size w w2) := (by
              rw [HS2.out]
              exact ⟨hb2, HJ.out.2.trans hl2⟩ : _ ∧ _)
            clear hb2 hl2 ho2
            go_wp2
            go_roundw
            case rel => exact ⟨u + 1, by omega, by go_num, by rw [HBq.out, ← HJB.out]; go_num, HJ2.out⟩
            case measure => simp [intOf] <;> omega
    · obtain rfl : u = n := by omega
      have hI := HI.out.1
      rw [valsT_bytes] at hI
      have HSt : Hid (Calls Try.prog 94 _ wr _) := Try.Builder_String_any_k w.heap.size w.heap.size _ wr hI HI.out.2.size
      clear hI
      go_wp2_with fail
      refine (Calls.mono HSt.out ?_)
      rintro e w3 ⟨rfl, hb3, hl3, ho3⟩
      go_wp2
      go_ret
      exact ⟨rfl, HI.out.2.trans hl3⟩
end Go.Proofs.Ytphjbbbnbmafnaa.G
