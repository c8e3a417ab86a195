/-
  Graph.reach: the nodes to which ways lead, in order.
  Graph.Reach: where ways lead whose labels are a text of an expression.
-/
import Derived.Test.YtphjbbbnbmafnabGreatDoorXGn
import Derived.Test.YtphjbbbnbmafnabGreatDoorRxT
namespace Go.Proofs.YtphjbbbnbmafnabGreatDoor.G
open Go.RowKit Go.Shelf Go.Proofs.YtphjbbbnbmafnabGreatDoor.RxM

attribute [local go_sem] Oper.semAt_some
variable {outs : Nat → List E3}
theorem least_ex {R : Nat → Prop} (h : ∃ k, R k) : ∃ k, R k ∧ ∀ j, R j → k ≤ j := by
  obtain ⟨k, hk⟩ := h
  induction k using Nat.strongRecOn with
  | _ k ih =>
    by_cases hl : ∃ j, j < k ∧ R j
    · obtain ⟨j, hj, hr⟩ := hl; exact ih j hj hr
    · exact ⟨k, hk, fun j hj => by
        rcases Nat.lt_or_ge j k with e | e
        · exact absurd ⟨j, e, hj⟩ hl
        · exact e⟩
/-- the least number that goes with a world -/
noncomputable def msr (R : World → Nat → Prop) (w : World) : Nat := by
  classical
  exact if h : ∃ k, R w k ∧ ∀ j, R w j → k ≤ j then Classical.choose h else 0
theorem msr_is {R : World → Nat → Prop} {w : World} {k : Nat} (h : R w k) (hl : ∀ j, R w j → k ≤ j) : msr R w = k := by
  have hx : ∃ k, R w k ∧ ∀ j, R w j → k ≤ j := ⟨k, h, hl⟩
  unfold msr
  rw [dif_pos hx]
  have h1 := Classical.choose_spec hx
  have := h1.2 k h
  have := hl _ h1.1
  omega
theorem msr_le {R : World → Nat → Prop} {w : World} {k : Nat} (h : R w k) : msr R w ≤ k := by
  obtain ⟨m, hm, hl⟩ := least_ex ⟨k, h⟩
  rw [msr_is hm hl]
  exact hl k h
/-- zero stops -/
theorem flat10_zero (n : Nat) : flat10 (List.replicate n (z4, z4, .slice none 0 0, false)) = (madeCells #[.int .u64 0, .int .u64 0, .int .u64 0, .int .u64 0, .int .u64 0, .int .u64 0, .int .u64 0, .int .u64 0, .slice none 0 0, .bool false] (n * 10)).toList := by
  apply List.ext_getElem?
  intro k
  by_cases h : k < n * 10
  · obtain ⟨e0, e1, e2, e3, e4, e5, e6, e7, e8, e9⟩ := flat10_at (List.replicate n (z4, z4, .slice none 0 0, false)) (k / 10) (z4, z4, .slice none 0 0, false) (by rw [List.getElem?_replicate, if_pos (by omega)])
    have hk : k = k / 10 * 10 + k % 10 := by omega
    rcases (show k % 10 = 0 ∨ k % 10 = 1 ∨ k % 10 = 2 ∨ k % 10 = 3 ∨ k % 10 = 4 ∨ k % 10 = 5 ∨ k % 10 = 6 ∨ k % 10 = 7 ∨ k % 10 = 8 ∨ k % 10 = 9 by omega) with e | e | e | e | e | e | e | e | e | e
    · rw [show k = k / 10 * 10 by omega, e0, ← show k = k / 10 * 10 by omega]; simp [madeCells, h, e]
    · rw [show k = k / 10 * 10 + 1 by omega, e1, ← show k = k / 10 * 10 + 1 by omega]; simp [madeCells, h, e]
    · rw [show k = k / 10 * 10 + 2 by omega, e2, ← show k = k / 10 * 10 + 2 by omega]; simp [madeCells, h, e]
    · rw [show k = k / 10 * 10 + 3 by omega, e3, ← show k = k / 10 * 10 + 3 by omega]; simp [madeCells, h, e]
    · rw [show k = k / 10 * 10 + 4 by omega, e4, ← show k = k / 10 * 10 + 4 by omega]; simp [madeCells, h, e]
    · rw [show k = k / 10 * 10 + 5 by omega, e5, ← show k = k / 10 * 10 + 5 by omega]; simp [madeCells, h, e]
    · rw [show k = k / 10 * 10 + 6 by omega, e6, ← show k = k / 10 * 10 + 6 by omega]; simp [madeCells, h, e]
    · rw [show k = k / 10 * 10 + 7 by omega, e7, ← show k = k / 10 * 10 + 7 by omega]; simp [madeCells, h, e]
    · rw [show k = k / 10 * 10 + 8 by omega, e8, ← show k = k / 10 * 10 + 8 by omega]; simp [madeCells, h, e]
    · rw [show k = k / 10 * 10 + 9 by omega, e9, ← show k = k / 10 * 10 + 9 by omega]; simp [madeCells, h, e]
  · rw [List.getElem?_eq_none (by rw [flat10_len, List.length_replicate]; omega), List.getElem?_eq_none (by simp [size_madeCells]; omega)]
theorem Tryz.infoSp : (Tryz.prog.info? 130).map (fun i => (i.zero, i.size, i.bytes)) = some (some (.agg #[.int .u64 0, .int .u64 0, .int .u64 0, .int .u64 0, .int .u64 0, .int .u64 0, .int .u64 0, .int .u64 0, .slice none 0 0, .bool false]), 10, 96) := by kernel_rfl
set_option maxRecDepth 100000 in
set_option maxHeartbeats 4000000 in
theorem start_any (X : Nat) (w : World) : Calls Tryz.prog 57 #[.pointer (some ⟨X, 0, none⟩)] w fun e w' => e = .returned (.agg #[.int .u64 1, .int .u64 0, .int .u64 0, .int .u64 0]) ∧ Below w.heap.size w w' := by
  have HOn : Hid (∀ W, Calls Tryz.prog 54 #[.int .i64 0] W fun e w' => e = .returned (.agg #[.int .u64 1, .int .u64 0, .int .u64 0, .int .u64 0]) ∧ Below W.heap.size W w') := (fun W => (setonly_any 0 (by decide) W) : ∀ W, _)
  obtain ⟨W0, hW0⟩ : ∃ W0, W0 = w.alloc (.cells #[.int .u64 0, .int .u64 0, .int .u64 0, .int .u64 0] 114) := ⟨_, rfl⟩
  have hJ : Below w.heap.size w W0 := by rw [hW0]; exact below1 _ _
  have r0 : W0.heap[w.heap.size]? = some (.cells #[.int .u64 0, .int .u64 0, .int .u64 0, .int .u64 0] 114 (0, 0)) := by rw [hW0]; exact heap_alloc_new w _
  go_enter Tryz.func57, Tryz.ntmps57
  go_wp2_with fail
  rw [← hW0]
  clear hW0
  refine (HOn.out W0).mono ?_
  rintro e w1 ⟨rfl, hB⟩
  have k0 := heap_keep hB r0
  obtain ⟨⟨c0, c1, c2, c3⟩, z0, z1, z2, z3⟩ := row4 k0
  have HB : Hid (_ ∧ _) := ⟨chain hJ hB, k0⟩
  clear hB hJ r0 k0
  go_wp2
  exact bodyPost_ret (results_cell_row rfl _ _ w.heap.size _ _ (0, 0) _ rfl (set4 HB.out.2 _ _ _ _) rfl rfl rfl) rfl ⟨rfl, set4_below HB.out.1 (Nat.le_refl _) _ _ _ _⟩
/-- what reach answers -/
def ReachPost (outs : Nat → List E3) (t : Rx) (u n : Nat) (w : World) (e : Ending) (w' : World) : Prop :=
  ∃ rv res, e = .returned rv ∧ Below w.heap.size w w' ∧ w'.ownsRow w.heap.size 3 1 rv res.length (ints res) ∧ res.Pairwise (· < ·) ∧ ∀ v, v ∈ res ↔ v < n ∧ rel (Eof outs) t u v
/-- the state of the walk's loop -/
def LpSt (outs : Nat → List E3) (t : Rx) (ss : List S4) (u n : Nat) (w0 : World) (K Gp X gs : Nat) (w : World) (k : Nat) : Prop :=
  ∃ wv l wt, WkAt outs w w0.heap.size K Gp X n gs wv l wt ∧ Wk (bh0 t) (tk0 t) (Eof outs) u n ss.length (sa l) (sb l) wt (fun _ _ _ _ => False) ∧ todo (sa l) wt n ss.length ≤ 5000000 ∧ Below w0.heap.size w0 w ∧ k = todo (sa l) wt n ss.length
/-- the nodes at which a way may end, up to some -/
def upToX (l : List Wst) (en : S4) (j : Nat) : List Nat := (List.range j).filter fun v => decide (and4 ((sa l).getD v z4) en ≠ z4)
theorem upTo_yes {l : List Wst} {en : S4} {j : Nat} (h : and4 ((sa l).getD j z4) en ≠ z4) : upToX l en (j + 1) = upToX l en j ++ [j] := by
  unfold upToX
  rw [List.range_succ, List.filter_append, List.filter_cons, if_pos (by rw [decide_eq_true_eq]; exact h)]
  rfl
theorem upTo_no {l : List Wst} {en : S4} {j : Nat} (h : ¬ and4 ((sa l).getD j z4) en ≠ z4) : upToX l en (j + 1) = upToX l en j := by
  unfold upToX
  rw [List.range_succ, List.filter_append, List.filter_cons, if_neg (by rw [decide_eq_true_eq]; exact h)]
  simp
theorem upToX_len (l : List Wst) (en : S4) (j : Nat) : (upToX l en j).length ≤ j := by
  have := List.length_filter_le (fun v => decide (and4 ((sa l).getD v z4) en ≠ z4)) (List.range j)
  rwa [List.length_range] at this
theorem own_baseX {w : World} {b b2 : Nat} {e : TypeId} {k : Nat} {v : Value} {n : Nat} {xs : List Value} (h : w.ownsRow b e k v n xs) (hb : b2 ≤ b) : w.ownsRow b2 e k v n xs := by
  refine ⟨h.1, ?_⟩
  rcases h.2 with h0 | ⟨g, cap, cur, h1, h2, h3⟩
  · exact .inl h0
  · exact .inr ⟨g, cap, cur, h1, Nat.le_trans hb h2, h3⟩
theorem one_zero : one4 0 = (1, 0, 0, 0) := by simp [one4]
set_option maxRecDepth 100000 in
set_option maxHeartbeats 16000000 in
theorem reach_any (t : Rx) (ss ts : List S4) (en : S4) (s u n Gp X : Nat) (w : World) (hE : ExAt w X s t ss ts en) (hT : TzAt w) (HOut : OutC outs w Gp n) (hok : OutsOk outs n s) (hn : n ≤ 10000) (hu : u < n) (hsz : size t ≤ 200) (hG : w.cell? ⟨Gp, 0, none⟩ = some (.int .i64 (n : Int))) :
    Calls Tryz.prog 26 #[.pointer (some ⟨Gp, 0, none⟩), .int .i64 (u : Int), .pointer (some ⟨X, 0, none⟩)] w (ReachPost outs t u n w) := by
  obtain ⟨i1, hi1, hz0, hz1, hz2⟩ := info_parts Tryz.infoSp
  obtain ⟨cn, hcn⟩ : ∃ cn, cn = madeCells #[.int .u64 0, .int .u64 0, .int .u64 0, .int .u64 0, .int .u64 0, .int .u64 0, .int .u64 0, .int .u64 0, .slice none 0 0, .bool false] (n * 10) := ⟨_, rfl⟩
  have mkn : ∀ W, (Instr.makeSlice 123 (.int .i64 (n : Int)) (.int .i64 (n : Int))).run Tryz.prog W = .ok (.slice (some ⟨W.heap.size, 0, none⟩) n n) (W.alloc (.cells cn 130)) := fun W => by
    have := run_make (P := Tryz.prog) W 123 130 i1 _ Tryz.underlying123 hi1 hz0 .i64 .i64 (n : Int) (n : Int) (by omega) (by omega) (by rw [hz2]; omega) (by omega)
    rw [hz1, Int.toNat_natCast] at this
    rw [hcn]
    exact this
  obtain ⟨W1, hW1⟩ : ∃ W1, W1 = (w.alloc (.cells cn 130)).alloc (.cells #[.pointer (some ⟨Gp, 0, none⟩), .pointer (some ⟨X, 0, none⟩), .slice (some ⟨w.heap.size, 0, none⟩) n n, .slice none 0 0] 125) := ⟨_, rfl⟩
  have hJ : Below w.heap.size w W1 := by rw [hW1]; exact xal (below1 _ _)
  have r0 : W1.heap[w.heap.size]? = some (.cells cn 130 (0, 0)) := by rw [hW1]; exact heap_keep (below1 _ _) (heap_alloc_new w _)
  have r1 : W1.heap[w.heap.size + 1]? = some (.cells #[.pointer (some ⟨Gp, 0, none⟩), .pointer (some ⟨X, 0, none⟩), .slice (some ⟨w.heap.size, 0, none⟩) n n, .slice none 0 0] 125 (0, 0)) := by
    rw [hW1]
    have := heap_alloc_new (w.alloc (.cells cn 130)) (.cells #[.pointer (some ⟨Gp, 0, none⟩), .pointer (some ⟨X, 0, none⟩), .slice (some ⟨w.heap.size, 0, none⟩) n n, .slice none 0 0] 125)
    rwa [World.size_alloc] at this
  have hk0 : WkAt outs W1 w.heap.size (w.heap.size + 1) Gp X n w.heap.size (.slice none 0 0) (List.replicate n (z4, z4, .slice none 0 0, false)) [] := by
    refine ⟨r1, ?_, ⟨rfl, .inl ⟨rfl, rfl⟩⟩, by simp, fun x hx => ?_, ⟨by omega, fun g e => by cases e⟩, ⟨by omega, by omega⟩, fun u x hx ha => ?_⟩
    · refine ⟨by rw [flat10_len, List.length_replicate], .inr ⟨w.heap.size, n, cn, rfl, Nat.le_refl _, r0, Nat.le_refl _, by unfold maxLen; omega, by rw [hcn, size_madeCells], ?_⟩⟩
      rw [flat10_zero, hcn, List.take_of_length_le (by simp [size_madeCells])]
    · rw [List.eq_of_mem_replicate hx]; exact ⟨ok4_zero, ok4_zero⟩
    · have hm := List.mem_of_getElem? hx
      rw [List.eq_of_mem_replicate hm] at ha
      cases ha
  have hPl : ss.length ≤ 201 := by rw [hE.ex.len]; omega
  have h0u : (List.replicate n ((z4, z4, .slice none 0 0, false) : Wst))[u]? = some (z4, z4, .slice none 0 0, false) := by rw [List.getElem?_replicate, if_pos hu]
  have HCo : Hid (∀ W, Below W1.heap.size W1 W → Calls Tryz.prog 56 #[.pointer (some ⟨w.heap.size + 1, 0, none⟩), .int .i64 (u : Int), .agg #[.int .u64 1, .int .u64 0, .int .u64 0, .int .u64 0]] W fun e w' => e = .returned (.tuple #[]) ∧ ∃ k, LpSt outs t ss u n w (w.heap.size + 1) Gp X w.heap.size w' k) := (fun W hW => by
    have := come_any (outs := outs) w.heap.size (w.heap.size + 1) Gp X n w.heap.size (.slice none 0 0) (List.replicate n (z4, z4, .slice none 0 0, false)) [] u _ h0u (1, 0, 0, 0) (by rw [← one_zero]; exact ok4_one 0) W (hk0.below hW) (by simp)
    refine Calls.mono this ?_
    rintro e w' ⟨rfl, hS, hB, wv', hwv, hW'⟩
    have e1 : wo4 (1, 0, 0, 0) z4 = (1, 0, 0, 0) := by decide
    have e2 : ((1, 0, 0, 0) : S4) ≠ z4 := by decide
    have e3 : or4 z4 (1, 0, 0, 0) = one4 0 := by rw [one_zero]; decide
    simp only [e1, e2, if_false, e3, if_true] at hW'
    have hsa : sa ((List.replicate n ((z4, z4, .slice none 0 0, false) : Wst)).set u (one4 0, one4 0, .slice none 0 0, false)) = (List.replicate n z4).set u (one4 0) := by rw [sa_set]; congr 1; simp [sa]
    have hsb : sb ((List.replicate n ((z4, z4, .slice none 0 0, false) : Wst)).set u (one4 0, one4 0, .slice none 0 0, false)) = (List.replicate n z4).set u (one4 0) := by rw [sb_set]; congr 1; simp [sb]
    refine ⟨rfl, _, wv', _, [u], hW', by rw [hsa, hsb]; exact wk_start hu (by rw [hE.ex.len]; omega), ?_, (hJ.trans (hW.mono hJ.size)).trans hB, rfl⟩
    have hh := unseen_top (fn (sa ((List.replicate n ((z4, z4, .slice none 0 0, false) : Wst)).set u (one4 0, one4 0, .slice none 0 0, false)))) n ss.length
    have : n * ss.length ≤ 10000 * 201 := Nat.mul_le_mul hn hPl
    unfold todo
    simp only [List.length_singleton]
    omega : ∀ W, Below W1.heap.size W1 W → _)
  have HSt : Hid (∀ W, Calls Tryz.prog 57 #[.pointer (some ⟨X, 0, none⟩)] W _) := (fun W => start_any X W : ∀ W, _)
  have HE : Hid (_ ∧ _ ∧ _ ∧ _) := ⟨hE, hT, HOut, hok⟩
  have HJ : Hid _ := hJ
  clear hE hT HOut hok hk0 r0 r1 hJ h0u hcn
  go_enter Tryz.func26, Tryz.ntmps26
  go_wp2_with fail
  rw [← hW1]
  have HW1 : Hid _ := hW1
  clear hW1 mkn
  refine (HSt.out W1).mono ?_
  rintro e w2 ⟨rfl, hB2⟩
  have HB2 : Hid _ := hB2
  clear hB2
  go_wp2_with fail
  refine (HCo.out w2 HB2.out).mono ?_
  rintro e w3 ⟨rfl, hst⟩
  have HS3 : Hid _ := hst
  clear hst
  go_wp2
  go_loopw [32] (fun _ wr => Hid (∃ k, LpSt outs t ss u n w (w.heap.size + 1) Gp X w.heap.size wr k)) (fun _ wr => msr (LpSt outs t ss u n w (w.heap.size + 1) Gp X w.heap.size) wr)
  case atStart => exact HS3.out
  case round =>
    have HR : Hid (∃ k, LpSt outs t ss u n w (w.heap.size + 1) Gp X w.heap.size wr k) := hrel.out
    clear hrel
    obtain ⟨k, hk, hkl⟩ := least_ex HR.out
    have hms := msr_is hk hkl
    obtain ⟨wv, l, wt, hW, hwk, htd, hB, hke⟩ := hk
    rcases List.eq_nil_or_concat wt with rfl | ⟨wt', x, hwt⟩
    · obtain ⟨a0, cap, hwv⟩ : ∃ a0 cap, wv = .slice a0 0 cap := by
        rcases hW.ow.2 with ⟨h0, _⟩ | ⟨g, cap, cur, h1, _⟩
        · exact ⟨_, _, h0⟩
        · exact ⟨_, _, h1⟩
      subst hwv
      obtain ⟨⟨_, _, k2, k3⟩, _⟩ := row4 hW.rK
      have HW : Hid (_ ∧ _ ∧ _) := ⟨hW, hwk, hB⟩
      have hwz : w.heap.size ≤ wr.heap.size := hB.size
      obtain ⟨i2, hi2, hy0, hy1, hy2⟩ := info_parts Tryz.infoIn
      clear hW hwk htd hB hke hms hkl
      rename World => Wf
      go_wp2
      go_loopw [38, 8, 9] (fun si s8 _ w6 => ∃ j : Nat, j ≤ n ∧ si = .int .i64 (j : Int) ∧ Hid (w6.ownsRow Wf.heap.size 3 1 s8 (upToX l en j).length (ints (upToX l en j)) ∧ Below Wf.heap.size Wf w6)) (fun si _ _ _ => n - (intOf si).toNat)
      case atStart => exact ⟨0, by omega, rfl, ⟨rfl, .inl ⟨rfl, rfl⟩⟩, Below.refl _ _⟩
      case round =>
        obtain ⟨j, hj, rfl, HL⟩ := hrel
        have HL2 : Hid (_ ∧ _) := HL.out
        clear HL
        have hBW := HL2.out.2
        have hzr : Wf.heap.size ≤ wr.heap.size := hBW.size
        have hWk := HW.out.1.below hBW
        by_cases hlt : j < n
        · have hjI : (j : Int) < (n : Int) := by omega
          obtain ⟨x, hx⟩ : ∃ x, l[j]? = some x := ⟨_, List.getElem?_eq_getElem (by rw [HW.out.1.len]; exact hlt)⟩
          obtain ⟨f0, f1, f2, f3, _⟩ := flat10_at l j _ hx
          have e0 := (hWk.os.cellAt (j * 10) (by omega)).trans f0
          have e1 := (hWk.os.cellAt (j * 10 + 1) (by omega)).trans f1
          have e2 := (hWk.os.cellAt (j * 10 + 2) (by omega)).trans f2
          have e3 := (hWk.os.cellAt (j * 10 + 3) (by omega)).trans f3
          have hxo := HW.out.1.ok x (List.mem_of_getElem? hx)
          have hB0 : Below w.heap.size w wr := HW.out.2.2.trans (hBW.mono hwz)
          have hIs := istext_any X x.1 en hxo.1 HE.out.1.ex.ok3 wr (cell_kept hB0 _ _ HE.out.1.e2) (cell_kept hB0 _ _ HE.out.1.e3) (cell_kept hB0 _ _ HE.out.1.e4) (cell_kept hB0 _ _ HE.out.1.e5)
          have hsx : (sa l).getD j z4 = x.1 := sa_at hx
          obtain ⟨⟨s0, s1, s2, s3⟩, xr⟩ := x
          simp only [v4] at hIs
          simp only at e0 e1 e2 e3 hsx
          have hbe : (!decide (s0 &&& en.1 = 0 ∧ s1 &&& en.2.1 = 0 ∧ s2 &&& en.2.2.1 = 0 ∧ s3 &&& en.2.2.2 = 0)) = decide (and4 (s0, s1, s2, s3) en ≠ z4) := by
            rw [← decide_not]
            refine decide_eq_decide.2 (not_congr ?_)
            obtain ⟨en0, en1, en2, en3⟩ := en
            simp [and4]
          rw [hbe] at hIs
          have HIs : Hid (Calls Tryz.prog 59 #[.pointer (some ⟨X, 0, none⟩), .agg #[.int .u64 (s0 : Int), .int .u64 (s1 : Int), .int .u64 (s2 : Int), .int .u64 (s3 : Int)]] wr _) := hIs
          obtain ⟨⟨_, _, m2, _⟩, _⟩ := row4 hWk.rK
          have HX : Hid _ := hsx
          clear hIs hbe hWk hBW hx f0 f1 f2 f3 hB0 k2 k3 hsx
          go_wp2_with fail
          refine HIs.out.mono ?_
          rintro e w7 ⟨rfl, hB7⟩
          have how := own_same HL2.out.1 (Same.below hB7) (fun _ _ => id)
          have hB6 : Below Wf.heap.size Wf w7 := HL2.out.2.trans (hB7.mono hzr)
          have hz7 : wr.heap.size ≤ w7.heap.size := hB7.size
          have HM : Hid (_ ∧ _) := ⟨how, hB6⟩
          have hul := upToX_len l en j
          clear how hB6 hB7 e0 e1 e2 e3 m2
          by_cases hyes : and4 (s0, s1, s2, s3) en ≠ z4
          · rw [decide_eq_true hyes]
            have hun := upTo_yes (l := l) (en := en) (j := j) (by rw [HX.out]; exact hyes)
            have HU : Hid _ := hun
            clear hun hyes
            go_wp2_with (at_builtin; refine wpList_append_keep _ rfl _ _ 22 rfl Wf.heap.size 3 i2 (.int .i64 0) 1 8 Tryz.underlying22 hi2 hy0 hy1 hy2 rfl (by decide) _ _ _ rfl (HM.out.1.alloc _) ⟨w7.heap.size, 0, none⟩ 1 1 [.int .i64 (j : Int)] rfl rfl (World.news_of_block (cs := #[.int .i64 (j : Int)]) (t := 3) (fr := (0, 0)) (heap_alloc_new w7 _)) (by simp [Value.oneCell']) (by omega) (by unfold maxLen; omega) (by omega) (by simp; omega) ?_; intro g5 cap5 w8 hown5 hg5)
            have hb8 : Below Wf.heap.size Wf w8 := by
              have h1 : Below Wf.heap.size Wf (w7.alloc (.cells #[.int .i64 (j : Int)] 3)) := HM.out.2.alloc (by omega) _
              rcases hg5 with ⟨h5, h6⟩ | ⟨_, h6⟩
              · exact h1.grown h6 (by simp; omega) (fun k e => by injection e with e; subst e; exact (HM.out.1.lt _ h5).1)
              · exact h1.grown h6 (by simp; omega) (fun k e => by cases e)
            have HN : Hid (w8.ownsRow Wf.heap.size 3 1 (.slice (some ⟨g5, 0, none⟩) ((upToX l en j).length + 1) cap5) (upToX l en (j + 1)).length (ints (upToX l en (j + 1))) ∧ Below Wf.heap.size Wf w8) := (⟨by rw [HU.out, List.length_append, List.length_singleton, ints_snoc]; exact hown5, hb8⟩ : _ ∧ _)
            clear hown5 hg5 hb8
            go_wp2
            go_roundw
            case rel => exact ⟨j + 1, by omega, by go_num, HN.out⟩
            case measure => simp [intOf]; omega
          · rw [decide_eq_false hyes]
            have hun := upTo_no (l := l) (en := en) (j := j) (by rw [HX.out]; exact hyes)
            have HN : Hid (w7.ownsRow Wf.heap.size 3 1 u8 (upToX l en (j + 1)).length (ints (upToX l en (j + 1))) ∧ Below Wf.heap.size Wf w7) := (by rw [hun]; exact HM.out : _ ∧ _)
            clear hun hyes
            go_wp2
            go_roundw
            case rel => exact ⟨j + 1, by omega, by go_num, HN.out⟩
            case measure => simp [intOf]; omega
        · obtain rfl : j = n := by omega
          clear hBW hWk
          go_wp2
          go_ret
          refine ⟨_, upToX l en j, rfl, HW.out.2.2.trans (HL2.out.2.mono hwz), own_baseX HL2.out.1 hwz, List.Pairwise.sublist List.filter_sublist List.pairwise_lt_range, fun v => ?_⟩
          unfold upToX
          rw [List.mem_filter, List.mem_range, decide_eq_true_eq, wk_rel HW.out.2.1 HE.out.1.ex.es v]
    · rw [List.concat_eq_append] at hwt
      subst hwt
      have hlen : (wt' ++ [x]).length = wt'.length + 1 := by simp
      have how := hW.ow
      rw [hlen] at how
      obtain ⟨gw, cap, rfl, _, _⟩ := how.form (by omega)
      obtain ⟨⟨_, _, _, k3⟩, _⟩ := row4 hW.rK
      have HGo : Hid (Calls Tryz.prog 58 #[.pointer (some ⟨w.heap.size + 1, 0, none⟩)] wr _) := goon_any t ss ts en s u w (w.heap.size + 1) Gp X n w.heap.size _ l wt' x wr HE.out.1 HE.out.2.1 HE.out.2.2.1 HE.out.2.2.2 hB hW hwk htd
      have HM : Hid (_ ∧ _ ∧ _ ∧ _) := ⟨hms, hke, htd, hB⟩
      have hpI : (0 : Int) < ((wt'.length + 1 : Nat) : Int) := by omega
      clear hms hke htd hB hW hwk how hkl
      go_wp2_with fail
      refine HGo.out.mono ?_
      rintro e w5 ⟨rfl, hB5, wv5, l5, wt5, hW5, hwk5, htd5⟩
      have hst5 : LpSt outs t ss u n w (w.heap.size + 1) Gp X w.heap.size w5 (todo (sa l5) wt5 n ss.length) := ⟨wv5, l5, wt5, hW5, hwk5, by have := HM.out.2.2.1; omega, HM.out.2.2.2.trans hB5, rfl⟩
      have HN : Hid (_ ∧ _) := ⟨hst5, htd5⟩
      clear hst5 hB5 hW5 hwk5 htd5
      go_wp2
      go_roundw
      case rel => exact ⟨_, HN.out.1⟩
      case measure =>
        rw [HM.out.1, HM.out.2.1]
        exact Nat.lt_of_le_of_lt (msr_le HN.out.1) HN.out.2
end Go.Proofs.YtphjbbbnbmafnabGreatDoor.G

namespace Go.Proofs.YtphjbbbnbmafnabGreatDoor.G
open Go.RowKit Go.Shelf Go.Proofs.YtphjbbbnbmafnabGreatDoor.RxM

variable {outs : Nat → List E3}
set_option maxRecDepth 100000 in
set_option maxHeartbeats 4000000 in
theorem ibelow_is (x b : Int) (w : World) :
    Calls Tryz.prog 24 #[.int .i64 x, .int .i64 b] w fun e w' => e = .returned (.bool (decide (0 ≤ x ∧ x < b))) ∧ w' = w := by
  by_cases h1 : 0 ≤ x
  · by_cases h2 : x < b
    · have HD : Hid _ := decide_eq_true (show 0 ≤ x ∧ x < b from ⟨h1, h2⟩)
      rw [HD.out]
      go_enter Tryz.func24, Tryz.ntmps24
      go_wp2
      go_ret
      exact ⟨rfl, rfl⟩
    · have HD : Hid _ := decide_eq_false (show ¬ (0 ≤ x ∧ x < b) from fun h => h2 h.2)
      rw [HD.out]
      go_enter Tryz.func24, Tryz.ntmps24
      go_wp2
      go_ret
      exact ⟨rfl, rfl⟩
  · have HD : Hid _ := decide_eq_false (show ¬ (0 ≤ x ∧ x < b) from fun h => h1 h.1)
    rw [HD.out]
    go_enter Tryz.func24, Tryz.ntmps24
    go_wp2
    go_ret
    exact ⟨rfl, rfl⟩
/-- what Reach answers -/
def RchPost (outs : Nat → List E3) (u : Int) (q : ByteArray) (n s : Nat) (w : World) (e : Ending) (w' : World) : Prop :=
  ∃ rv c res, e = .returned (.tuple #[rv, .int .i64 c]) ∧ Below w.heap.size w w' ∧ w'.ownsRow w.heap.size 3 1 rv res.length (ints res) ∧
  ((¬ (0 ≤ u ∧ u < (n : Int)) ∧ c = 1 ∧ res = []) ∨ ((0 ≤ u ∧ u < (n : Int)) ∧ (200 < q.size ∨ RxM.read s (codes q) = none) ∧ c = 6 ∧ res = []) ∨
    ((0 ≤ u ∧ u < (n : Int)) ∧ q.size ≤ 200 ∧ ∃ t, RxM.read s (codes q) = some t ∧ c = 0 ∧ res.Pairwise (· < ·) ∧ ∀ v, v ∈ res ↔ v < n ∧ rel (Eof outs) t u.toNat v))
theorem own_nil (w : World) (b : Nat) (e : TypeId) (k : Nat) : w.ownsRow b e k (.slice none 0 0) 0 [] := ⟨by simp, .inl ⟨rfl, rfl⟩⟩
set_option maxRecDepth 100000 in
set_option maxHeartbeats 8000000 in
theorem greach_any (Gp n s : Nat) (u : Int) (q : ByteArray) (w : World) (hT : TzAt w) (HOut : OutC outs w Gp n) (hok : OutsOk outs n s) (hn : n ≤ 10000) (hs : s ≤ 26) (h0 : w.cell? ⟨Gp, 0, none⟩ = some (.int .i64 (n : Int))) (h1 : w.cell? ⟨Gp, 1, none⟩ = some (.int .i64 (s : Int))) :
    Calls Tryz.prog 10 #[.pointer (some ⟨Gp, 0, none⟩), .int .i64 u, .string q] w (RchPost outs u q n s w) := by
  have HIb : Hid (Calls Tryz.prog 24 #[.int .i64 u, .int .i64 (n : Int)] w _) := ibelow_is u (n : Int) w
  have HRd : Hid (Calls Tryz.prog 25 #[.string q, .int .i64 (s : Int)] w _) := read_any q s hs w hT
  have HH : Hid (_ ∧ _ ∧ _ ∧ _) := ⟨hT, HOut, hok, h0⟩
  clear hT HOut hok
  by_cases hu : 0 ≤ u ∧ u < (n : Int)
  · obtain ⟨un, hun⟩ : ∃ un : Nat, u = (un : Int) := ⟨u.toNat, by omega⟩
    have HU : Hid (_ ∧ _) := ⟨hu, hun⟩
    clear hu hun
    go_enter Tryz.func10, Tryz.ntmps10
    go_wp2_with fail
    refine HIb.out.mono ?_
    rintro e w1 ⟨rfl, rfl⟩
    rw [decide_eq_true HU.out.1]
    go_wp2_with fail
    refine HRd.out.mono ?_
    rintro e w2 ⟨hB, ⟨rfl, hno⟩ | ⟨X, t, ss, ts, en, rfl, hq, hrd, hE⟩⟩
    · have HB : Hid (_ ∧ _) := ⟨hB, hno⟩
      clear hB hno h0 h1
      go_wp2
      go_ret2
      exact ⟨_, _, [], rfl, HB.out.1, own_nil _ _ _ _, .inr (.inl ⟨HU.out.1, HB.out.2, rfl, rfl⟩)⟩
    · have hsz : size t ≤ 200 := Nat.le_trans (read_size hrd) (by rw [codes_size]; exact hq)
      have hr := reach_any (outs := outs) t ss ts en s un n Gp X w2 hE (TzAt.below HH.out.1 hB) (fun W hW => HH.out.2.1 W (hB.trans (hW.mono hB.size))) HH.out.2.2.1 hn (by have := HU.out; omega) hsz (cell_kept hB _ _ HH.out.2.2.2)
      rw [← HU.out.2] at hr
      have HR : Hid (Calls Tryz.prog 26 #[.pointer (some ⟨Gp, 0, none⟩), .int .i64 u, .pointer (some ⟨X, 0, none⟩)] w2 _) := hr
      have HB : Hid (_ ∧ _ ∧ _) := ⟨hB, hq, hrd⟩
      clear hr hB hq hrd hE h0 h1
      go_wp2_with fail
      refine HR.out.mono ?_
      rintro e w3 ⟨rv, res, rfl, hB3, ho, hpw, hmem⟩
      have HF : Hid (_ ∧ _ ∧ _ ∧ _) := ⟨hB3, ho, hpw, hmem⟩
      clear hB3 ho hpw hmem
      go_wp2
      go_ret2
      refine ⟨rv, _, res, rfl, HB.out.1.trans (HF.out.1.mono HB.out.1.size), own_baseX HF.out.2.1 HB.out.1.size, .inr (.inr ⟨HU.out.1, HB.out.2.1, t, HB.out.2.2, rfl, HF.out.2.2.1, fun v => ?_⟩)⟩
      rw [HF.out.2.2.2 v, HU.out.2, Int.toNat_natCast]
  · have HU : Hid (¬ (0 ≤ u ∧ u < (n : Int))) := hu
    clear hu
    go_enter Tryz.func10, Tryz.ntmps10
    go_wp2_with fail
    refine HIb.out.mono ?_
    rintro e w1 ⟨rfl, rfl⟩
    rw [decide_eq_false HU.out]
    go_wp2
    go_ret2
    exact ⟨_, _, [], rfl, Below.refl _ _, own_nil _ _ _ _, .inl ⟨HU.out, rfl, rfl⟩⟩
end Go.Proofs.YtphjbbbnbmafnabGreatDoor.G
