/-
  The reader's newPlace: a place more, which takes a span of labels.
  The reader's piece: a letter, a point, or what stands in brackets; what piece, row and choice say of what they have read.
-/
import Derived.Test.YtphjbbbnbmafnabGreatDoorXJn
import Derived.Deep.CutRange
import Derived.Deep.DeepCutAuto
namespace Go.Proofs.YtphjbbbnbmafnabGreatDoor.G
open Go.RowKit Go.Shelf Go.Proofs.YtphjbbbnbmafnabGreatDoor.RxM

attribute [local go_sem] Oper.semAt_some
/-- a region that draws its order and ends in a store, outside of a round -/
theorem region_plain_last {n id : Nat} {P : Program} {l : List Oper} {st : Oper} {Q : Exit → Act → World → Prop} {a : Act} {w : World} (hst : l.getLast? = some st) (hm : P.follows .mixedOrders = true) (hB : Region.lexB .any l.dropLast.toArray = true) (hok : lastOk .any l.dropLast st = true)
    (h : wpQuietIn Fence.wide n P l.dropLast.toArray (fun w' => ∃ u, w' = ext w u) (fun a' => ∀ w', (∃ u, w' = ext w u) → st.wpIn Fence.wide n P a' w' (fun a w => Q .normal a w) Q) l.dropLast a) : (Code.region id l.toArray true).wp P Q a w := by
  have hl : l.toArray = l.dropLast.toArray.push st := by
    have : l = l.dropLast ++ [st] := by
      obtain ⟨ys, rfl⟩ := List.getLast?_eq_some_iff.1 hst
      simp
    conv => lhs; rw [this]
    simp
  rw [hl]
  exact wpIn_wide.1 (wpIn_region_any hm (region_last (C := fun w' => ∃ u, w' = ext w u) rfl hB hok ⟨w.drew, ext_of ((Below.refl _ _).drew)⟩ h))
theorem Tryz.infoSt : (Tryz.prog.info? 114).map (fun i => (i.zero, i.size, i.bytes)) = some (some (.agg #[.int .u64 0, .int .u64 0, .int .u64 0, .int .u64 0]), 4, 32) := by kernel_rfl
theorem flat4_snoc (ss : List S4) (s : S4) : flat4 (ss ++ [s]) = flat4 ss ++ (v4 s).toList := by unfold flat4; simp
theorem same_grown {w w2 : World} {gb g : Nat} (hg : (g = gb ∧ w.grownBy w2 (some g)) ∨ (g = w.heap.size ∧ w.grownBy w2 none)) : Same w w2 (fun k => k = gb) := by
  rcases hg with ⟨rfl, hg⟩ | ⟨_, hg⟩
  · exact (Same.grown hg).mono fun k _ e => by injection e with e; exact e.symm
  · exact (Same.grown hg).mono fun k _ e => by cases e
theorem grown_form {w w2 : World} {gb l cb g : Nat} (h : ((Value.slice (some ⟨gb, 0, none⟩) l cb).ownBlock = some g ∧ w.grownBy w2 (some g)) ∨ (g = w.heap.size ∧ w.grownBy w2 none)) : (g = gb ∧ w.grownBy w2 (some g)) ∨ (g = w.heap.size ∧ w.grownBy w2 none) :=
  h.imp (fun ⟨h1, h2⟩ => ⟨by simp only [Value.ownBlock, Option.some.injEq] at h1; exact h1.symm, h2⟩) id
/-- a set is put behind the row of what comes behind -/
theorem Rdr.push {w w2 : World} {base R X : Nat} {s : ByteArray} {n : Nat} {uc : Bool} {gb cb gt ct : Nat} {ss ts : List S4} (h : Rdr w base R X s n uc gb cb gt ct ss ts) (hroom : ss.length + 1 + s.size ≤ 201) (g cap : Nat)
    (hown : w2.ownsRow base 114 4 (.slice (some ⟨g, 0, none⟩) (ss.length + 1) cap) (ss.length + 1) (flat4 ss ++ [.int .u64 0, .int .u64 0, .int .u64 0, .int .u64 0])) (hg : (g = gb ∧ w.grownBy w2 (some g)) ∨ (g = w.heap.size ∧ w.grownBy w2 none)) :
    Rdr (w2.setCell ⟨X, 0, none⟩ (.slice (some ⟨g, 0, none⟩) (ss.length + 1) cap)) base R X s n uc g cap gt ct (ss ++ [z4]) ts ∧ Same w (w2.setCell ⟨X, 0, none⟩ (.slice (some ⟨g, 0, none⟩) (ss.length + 1) cap)) (fun k => k = X ∨ k = gb) ∧ Below base w (w2.setCell ⟨X, 0, none⟩ (.slice (some ⟨g, 0, none⟩) (ss.length + 1) cap)) := by
  have hl := h.lt
  have hbs := h.bs
  have hne := h.ne
  have hs1 := same_grown hg
  have hs2 := Same.set w2 ⟨X, 0, none⟩ (.slice (some ⟨g, 0, none⟩) (ss.length + 1) cap)
  have hgn : g = gb ∨ w.heap.size ≤ g := by rcases hg with ⟨e, _⟩ | ⟨e, _⟩ <;> omega
  have hb1 : Below base w w2 := by
    rcases hg with ⟨e, hg⟩ | ⟨_, hg⟩
    · exact (Below.refl base w).grown hg (by omega) (fun k e2 => by injection e2 with e2; omega)
    · exact (Below.refl base w).grown hg (by omega) (fun k e2 => by cases e2)
  have hb2 : Below base w (w2.setCell ⟨X, 0, none⟩ (.slice (some ⟨g, 0, none⟩) (ss.length + 1) cap)) := hb1.setCell (p := ⟨X, 0, none⟩) hbs.2.2.1 _
  have hsz := hs1.1
  refine ⟨⟨?_, ?_, ?_, ?_, ?_, h.okt, h.tz.base hb2 hbs.1, h.tl, by omega, by omega, by simp; omega, h.n26⟩, (hs1.trans hs2).mono fun k _ e => e.elim .inr .inl, hb2⟩
  · exact xset_other w2 X 0 R _ (hs1.row h.rR (by omega)) hne.1
  · have := xset_row w2 X 0 _ _ _ (.slice (some ⟨g, 0, none⟩) (ss.length + 1) cap) (hs1.row h.rX (by omega))
    rw [List.length_append, List.length_singleton]
    exact this
  · unfold OwnSets
    rw [List.length_append, List.length_singleton, flat4_snoc]
    exact own_same hown hs2 (fun k e => by simp only [Value.ownBlock, Option.some.injEq] at e; simp only; omega)
  · refine own_same (own_same h.ot hs1 fun k e => ?_) hs2 fun k e => ?_
    · simp only [Value.ownBlock, Option.some.injEq] at e; omega
    · simp only [Value.ownBlock, Option.some.injEq] at e; simp only; omega
  · intro x hx
    rcases List.mem_append.1 hx with hx | hx
    · exact h.okb x hx
    · rw [List.mem_singleton] at hx; subst hx; exact ok4_zero
/-- the reader, its row where it was or in new memory -/
def Moved (w w' : World) (base R X : Nat) (s : ByteArray) (n : Nat) (uc : Bool) (gb gt ct : Nat) (ss ts : List S4) : Prop := ∃ g cap, (g = gb ∨ w.heap.size ≤ g) ∧ Rdr w' base R X s n uc g cap gt ct ss ts
set_option maxRecDepth 100000 in
set_option maxHeartbeats 8000000 in
theorem newplace_any (base R X : Nat) (s : ByteArray) (n : Nat) (uc : Bool) (gb cb gt ct : Nat) (ss ts : List S4) (fr to_ : Nat) (hft : fr ≤ to_) (htn : to_ ≤ n) (w : World) (h : Rdr w base R X s n uc gb cb gt ct ss ts) (hroom : ss.length + 1 + s.size ≤ 201) :
    Calls Tryz.prog 129 #[.pointer (some ⟨R, 0, none⟩), .agg #[.int .i64 (fr : Int), .int .i64 (to_ : Int)]] w fun e w' => e = .returned (vp (one4 ss.length, one4 ss.length, false)) ∧ Moved w w' base R X s n uc gb gt ct (ss ++ [z4]) (linkAll (one4 ss.length) ts (List.range' fr (to_ - fr))) ∧ Same w w' (fun k => k = X ∨ k = gb ∨ k = gt) ∧ Below base w w' := by
  have hl := h.lt
  have hbs := h.bs
  have hk : ss.length < 256 := by omega
  have hto : to_ ≤ 26 := by have := h.n26; omega
  obtain ⟨W0, hW0⟩ : ∃ W0, W0 = (w.alloc (.cells #[.int .i64 (fr : Int), .int .i64 (to_ : Int)] 133)).alloc (.cells z9 118) := ⟨_, rfl⟩
  have hJ : Below w.heap.size w W0 := by rw [hW0]; exact xal (below1 _ _)
  have hs0 : W0.heap.size = w.heap.size + 1 + 1 := by rw [hW0]; simp
  have r0 : W0.heap[w.heap.size]? = some (.cells #[.int .i64 (fr : Int), .int .i64 (to_ : Int)] 133 (0, 0)) := by rw [hW0]; exact heap_keep (below1 _ _) (heap_alloc_new w _)
  have r1 : W0.heap[w.heap.size + 1]? = some (.cells z9 118 (0, 0)) := by
    rw [hW0]
    have := heap_alloc_new (w.alloc (.cells #[.int .i64 (fr : Int), .int .i64 (to_ : Int)] 133)) (.cells z9 118)
    rwa [World.size_alloc] at this
  have hR0 := h.below hJ
  have hon := setonly_any ss.length hk W0
  obtain ⟨z, hz⟩ : ∃ z, one4 ss.length = z := ⟨_, rfl⟩
  have hzok : ok4 z := hz ▸ ok4_one _
  rw [hz] at hon ⊢
  have HZ : Hid (one4 ss.length = z) := hz
  clear hz
  obtain ⟨o0, o1, o2, o3⟩ := z
  simp only [v4, vp] at hon ⊢
  have HOn : Hid (Calls Tryz.prog 54 #[.int .i64 (ss.length : Int)] W0 _) := hon
  clear hon
  obtain ⟨⟨c0, c1, c2, c3⟩, ⟨x0, x1⟩, ⟨y0, y3⟩, xf⟩ := hR0.cells
  have HR0 : Hid _ := hR0
  have HJ : Hid _ := hJ
  have HR : Hid (_ ∧ _) := ⟨r0, r1⟩
  obtain ⟨i1, hi1, hz0, hz1, hz2⟩ := info_parts Tryz.infoSt
  clear hR0 hJ h r0 r1
  go_enter Tryz.func129, Tryz.ntmps129
  go_upto_region 1 with fail
  rw [← hW0]
  have HW0 : Hid _ := hW0
  clear hW0
  go_wp2_with fail
  refine HOn.out.mono ?_
  rintro e1 w1 ⟨rfl, hB1⟩
  have hs1 := hB1.size
  have hR1 := HR0.out.below hB1
  obtain ⟨W2, hW2⟩ : ∃ W2, W2 = w1.alloc (.cells #[.int .u64 (o0 : Int), .int .u64 (o1 : Int), .int .u64 (o2 : Int), .int .u64 (o3 : Int)] 114) := ⟨_, rfl⟩
  have hJ2 : Below w1.heap.size w1 W2 := by rw [hW2]; exact below1 _ _
  have hs2 : w1.heap.size < W2.heap.size := by rw [hW2]; simp
  have hR2 := hR1.below hJ2
  have k0 := heap_keep hJ2 (heap_keep hB1 HR.out.1)
  have k1 := heap_keep hJ2 (heap_keep hB1 HR.out.2)
  have k2 : W2.heap[w1.heap.size]? = some (.cells #[.int .u64 (o0 : Int), .int .u64 (o1 : Int), .int .u64 (o2 : Int), .int .u64 (o3 : Int)] 114 (0, 0)) := by rw [hW2]; exact heap_alloc_new w1 _
  have hBw : Below w.heap.size w W2 := chain (chain HJ.out hB1) hJ2
  have HK : Hid (_ ∧ _ ∧ _ ∧ _ ∧ _) := ⟨hR2, hBw, k0, k1, k2⟩
  clear c0 c1 c2 c3 x0 x1 y0 y3 xf
  obtain ⟨⟨c0, c1, c2, c3⟩, ⟨x0, x1⟩, ⟨y0, y3⟩, xf⟩ := hR2.cells
  have a2 := fun o => cell_kept (below1 W2 o) _ _ c2
  have a0 := fun o => cell_kept (below1 W2 o) _ _ x0
  clear hB1 hR1 hJ2 hR2 k0 k1 k2 hBw
  go_upto_region 2 with fail
  rw [← hW2]
  have HW2 : Hid _ := hW2
  clear hW2
  go_cut [] (fun wx => ∃ g cap, Hid ((g = gb ∨ w1.heap.size < g) ∧ Rdr wx base R X s n uc g cap gt ct (ss ++ [z4]) ts ∧ Same w wx (fun k => k = X ∨ k = gb) ∧ Below base w wx ∧ wx.heap[w.heap.size]? = some (.cells #[.int .i64 (fr : Int), .int .i64 (to_ : Int)] 133 (0, 0)) ∧ wx.heap[w.heap.size + 1]? = some (.cells z9 118 (0, 0)) ∧ wx.heap[w1.heap.size]? = some (.cells #[.int .u64 (o0 : Int), .int .u64 (o1 : Int), .int .u64 (o2 : Int), .int .u64 (o3 : Int)] 114 (0, 0))))
  case first =>
    go_region_law (refine step_append_keep _ (by rfl) _ _ _ (by rfl) base 114 i1 _ 4 32 Tryz.underlying111 hi1 hz0 hz1 hz2 rfl (by omega) (.slice (some ⟨gb, 0, none⟩) ss.length cb) ss.length (flat4 ss) (by rfl) (World.ownsRow.drew (World.ownsRow.alloc HK.out.1.ob _)) ⟨W2.heap.size, 0, none⟩ 1 1 [.int .u64 0, .int .u64 0, .int .u64 0, .int .u64 0] (by rfl) (by rfl) (World.news_of_block (cs := #[.int .u64 0, .int .u64 0, .int .u64 0, .int .u64 0]) (t := 114) (fr := (0, 0)) (heap_alloc_new W2 _)) (by simp [Value.oneCell']) (by omega) (by unfold maxLen; omega) (by omega) (by simp; omega) ?_; intro g5 cap5 w5 hown5 hg5; have hgf := grown_form hg5; have hRa := HK.out.1.below ((below1 W2 (.cells #[.int .u64 0, .int .u64 0, .int .u64 0, .int .u64 0] 114)).drew); have p1 := (same_grown hgf).row hRa.rR hRa.ne.2.1; have p2 := (same_grown hgf).row hRa.rX hRa.ne.2.2.1; have m2 : w5.cell? ⟨R, 2, none⟩ = some (.pointer (some ⟨X, 0, none⟩)) := (by rw [cell_of_row _ _ 2 _ _ _ p1]; rfl); have m0 : w5.cell? ⟨X, 0, none⟩ = some (.slice (some ⟨gb, 0, none⟩) ss.length cb) := (by rw [cell_of_row _ _ 0 _ _ _ p2]; rfl); have mf := frozen_of_row w5 X 0 _ _ p2; clear p1 p2 hg5)
    all_goals
      have hp := hRa.push hroom g5 cap5 hown5 hgf
      have hbx := (below1 W2 (.cells #[.int .u64 0, .int .u64 0, .int .u64 0, .int .u64 0] 114)).drew
      have hgl : g5 = gb ∨ w1.heap.size < g5 := by
        rcases hgf with ⟨e, _⟩ | ⟨e, _⟩
        · exact .inl e
        · refine .inr ?_
          have := hbx.size
          omega
      have HF : Hid (_ ∧ _ ∧ _ ∧ _ ∧ _ ∧ _ ∧ _) := ⟨hgl, hp.1, (((Same.below HK.out.2.1).trans (Same.below hbx)).trans hp.2.1).mono (T := fun k => k = X ∨ k = gb) (fun k _ e => by rcases e with (e | e) | e; exact e.elim; exact e.elim; exact e), ((HK.out.2.1.mono (by omega)).trans (hbx.mono (by omega))).trans hp.2.2, hp.2.1.row (heap_keep hbx HK.out.2.2.1) (by omega), hp.2.1.row (heap_keep hbx HK.out.2.2.2.1) (by omega), hp.2.1.row (heap_keep hbx HK.out.2.2.2.2) (by omega)⟩
      clear hp hbx hgl hgf hown5 hRa m0 m2 mf a0 a2
      go_wp2_with fail
      go_meet
      case rel => exact ⟨_, _, HF.out⟩
  case rest =>
    obtain ⟨g, cap, HC⟩ := hcut
    have HC2 : Hid (_ ∧ _ ∧ _ ∧ _ ∧ _ ∧ _ ∧ _) := HC.out
    clear HC c0 c1 c2 c3 x0 x1 y0 y3 xf a0 a2
    have b0 : wc.cell? ⟨w.heap.size, 0, none⟩ = some (.int .i64 (fr : Int)) := by rw [cell_of_row _ _ 0 _ _ _ HC2.out.2.2.2.2.1]; rfl
    go_wp2
    go_loopw [6] (fun si wr => ∃ i : Nat, fr + i ≤ to_ ∧ si = .int .i64 ((fr + i : Nat) : Int) ∧ Hid (Rdr wr base R X s n uc g cap gt ct (ss ++ [z4]) (linkAll (o0, o1, o2, o3) ts (List.range' fr i)) ∧ Same w wr (fun k => k = X ∨ k = gb ∨ k = gt) ∧ Below base w wr ∧ wr.heap[w.heap.size]? = some (.cells #[.int .i64 (fr : Int), .int .i64 (to_ : Int)] 133 (0, 0)) ∧ wr.heap[w.heap.size + 1]? = some (.cells z9 118 (0, 0)) ∧ wr.heap[w1.heap.size]? = some (.cells #[.int .u64 (o0 : Int), .int .u64 (o1 : Int), .int .u64 (o2 : Int), .int .u64 (o3 : Int)] 114 (0, 0)))) (fun si _ => to_ - (intOf si).toNat)
    case atStart => exact ⟨0, by omega, by simp, HC2.out.2.1, HC2.out.2.2.1.mono (fun k _ e => e.elim .inl (fun e => .inr (.inl e))), HC2.out.2.2.2.1, HC2.out.2.2.2.2⟩
    case round =>
      obtain ⟨i, hi, rfl, HI⟩ := hrel
      have b1 : wr.cell? ⟨w.heap.size, 1, none⟩ = some (.int .i64 (to_ : Int)) := by rw [cell_of_row _ _ 1 _ _ _ HI.out.2.2.2.1]; rfl
      have hgg := HC2.out.1
      have HG : Hid _ := hgg
      clear hgg
      by_cases hlt : fr + i < to_
      · have hI : ((fr + i : Nat) : Int) < (to_ : Int) := by omega
        have hrd := HI.out.1
        have hlen := linkAll_len (o0, o1, o2, o3) ts (List.range' fr i)
        have hsn : linkAll (o0, o1, o2, o3) ts (List.range' fr (i + 1)) = (linkAll (o0, o1, o2, o3) ts (List.range' fr i)).set (fr + i) (or4 ((linkAll (o0, o1, o2, o3) ts (List.range' fr i)).getD (fr + i) (0, 0, 0, 0)) (o0, o1, o2, o3)) := by rw [← linkAll_snoc, List.range'_concat, Nat.one_mul]
        have hnn := hrd.tl
        have HSn : Hid _ := hsn
        clear hsn
        generalize linkAll (o0, o1, o2, o3) ts (List.range' fr i) = cu at hrd HSn hlen hnn
        obtain ⟨q, hq⟩ : ∃ q, cu[fr + i]? = some q := ⟨_, List.getElem?_eq_getElem (by omega)⟩
        have hqd : cu.getD (fr + i) (0, 0, 0, 0) = q := by rw [List.getD_eq_getElem?_getD, hq]; rfl
        have hqok := hrd.okt q (List.mem_of_getElem? hq)
        obtain ⟨q0, q1, q2, q3⟩ := q
        have hx4 : (fr + i) * 4 + 3 < cu.length * 4 := by omega
        obtain ⟨f0, f1, f2, f3⟩ := flat4_at cu (fr + i) _ hq
        have e0 := (hrd.ot.cellAt ((fr + i) * 4) (by omega)).trans f0
        have e1 := (hrd.ot.cellAt ((fr + i) * 4 + 1) (by omega)).trans f1
        have e2 := (hrd.ot.cellAt ((fr + i) * 4 + 2) (by omega)).trans f2
        have e3 := (hrd.ot.cellAt ((fr + i) * 4 + 3) (by omega)).trans f3
        simp only at e0 e1 e2 e3
        have HOr : Hid (∀ W, Calls Tryz.prog 85 _ W _) := fun W => setor_any q0 q1 q2 q3 o0 o1 o2 o3 hqok.1 hqok.2.1 hqok.2.2.1 hqok.2.2.2 hzok.1 hzok.2.1 hzok.2.2.1 hzok.2.2.2 W
        obtain ⟨⟨c0, c1, c2, c3⟩, _⟩ := row4 HI.out.2.2.2.2.2
        obtain ⟨⟨_, _, p2, _⟩, ⟨_, p1⟩, _⟩ := hrd.cells
        have hcI : ((fr + i : Nat) : Int) < (cu.length : Int) := by omega
        have u2 := fun u => ext_cell p2 u
        have u1 := fun u => ext_cell p1 u
        have y0 := fun u => ext_cell e0 u
        have y1 := fun u => ext_cell e1 u
        have y2 := fun u => ext_cell e2 u
        have y3 := fun u => ext_cell e3 u
        have d0 := fun u => ext_cell c0 u
        have d1 := fun u => ext_cell c1 u
        have d2 := fun u => ext_cell c2 u
        have d3 := fun u => ext_cell c3 u
        have HRd : Hid _ := hrd
        have HQ : Hid _ := List.mem_of_getElem? hq
        clear hrd p2 p1 e0 e1 e2 e3 c0 c1 c2 c3 f0 f1 f2 f3 hqok hq
        go_upto_region 6 with fail
        refine region_plain_last (n := 9) rfl (by kernel_rfl) (by kernel_rfl) (by kernel_rfl) ?_
        simp only [List.dropLast]
        repeat (gi_big_quiet_step (fail))
        refine wpQuietIn_step (by intros; intro; intros; trivial) (fun K hK => ?_)
        rw [if_pos (show Region.wanted _ _ = true from rfl)]
        gi_big_quiet_op
        apply Exists.intro
        refine ⟨fun u => ?_, ?_⟩
        · first
            | (refine ⟨fun h => by cases h, (callsIn_wide.2 (HOr.out _)).mono ?_⟩; rintro r w1 ⟨rfl, hB⟩; exact ⟨rfl, w1, ext_of (chain (ext_below _ _) hB)⟩)
            | (refine ⟨trivial, (callsIn_wide.2 (HOr.out _)).mono ?_⟩; rintro r w1 ⟨rfl, hB⟩; exact ⟨rfl, w1, ext_of (chain (ext_below _ _) hB)⟩)
            | (refine (callsIn_wide.2 (HOr.out _)).mono ?_; rintro r w1 ⟨rfl, hB⟩; exact ⟨rfl, w1, ext_of (chain (ext_below _ _) hB)⟩)
        refine hK _ ?_
        clear hK K
        repeat (gi_big_quiet_step (fail))
        refine wpQuietIn_nil ?_
        rintro wx ⟨u, rfl⟩
        have hB1 := ext_below wr u
        have hrx := HRd.out.below hB1
        have z0 := hrx.ot.frozenAt ((fr + i) * 4)
        have z1 := hrx.ot.frozenAt ((fr + i) * 4 + 1)
        have z2 := hrx.ot.frozenAt ((fr + i) * 4 + 2)
        have z3 := hrx.ot.frozenAt ((fr + i) * 4 + 3)
        have hcl : fr + i < cu.length := by omega
        have hown := own4 hrx.ot hcl (or4 (q0, q1, q2, q3) (o0, o1, o2, o3))
        have hsm := same4 (ext wr u) gt ((fr + i) * 4) ((fr + i) * 4 + 1) ((fr + i) * 4 + 2) ((fr + i) * 4 + 3) (.int .u64 ((q0 ||| o0 : Nat) : Int)) (.int .u64 ((q1 ||| o1 : Nat) : Int)) (.int .u64 ((q2 ||| o2 : Nat) : Int)) (.int .u64 ((q3 ||| o3 : Nat) : Int))
        have hbw := below4 (Below.refl base (ext wr u)) (g := gt) hbs.2.2.2.2 ((fr + i) * 4) ((fr + i) * 4 + 1) ((fr + i) * 4 + 2) ((fr + i) * 4 + 3) (.int .u64 ((q0 ||| o0 : Nat) : Int)) (.int .u64 ((q1 ||| o1 : Nat) : Int)) (.int .u64 ((q2 ||| o2 : Nat) : Int)) (.int .u64 ((q3 ||| o3 : Nat) : Int))
        have hnew := hrx.taken hsm hbw hown (ok4_set hrx.okt (fr + i) (ok4_or (HRd.out.okt _ HQ.out) hzok)) (by simp)
        rw [show cu.set (fr + i) (or4 (q0, q1, q2, q3) (o0, o1, o2, o3)) = linkAll (o0, o1, o2, o3) ts (List.range' fr (i + 1)) by rw [HSn.out, hqd]] at hnew
        have hrw := HI.out
        have hwb : w.heap.size ≤ wr.heap.size := hrw.2.1.1
        have HN : Hid (_ ∧ _ ∧ _ ∧ _ ∧ _ ∧ _) := ⟨hnew, ((hrw.2.1.trans (Same.below hB1)).trans hsm).mono (T := fun k => k = X ∨ k = gb ∨ k = gt) (fun k _ e => by rcases e with (e | e) | e; exact e; exact e.elim; exact .inr (.inr e)), (hrw.2.2.1.trans (hB1.mono (by omega))).trans hbw, hsm.row (heap_keep hB1 hrw.2.2.2.1) (by omega), hsm.row (heap_keep hB1 hrw.2.2.2.2.1) (by omega), hsm.row (heap_keep hB1 hrw.2.2.2.2.2) (by omega)⟩
        clear hB1 hrx hown hsm hbw hnew hrw
        simp only [List.getLast]
        refine ⟨by intros; trivial, ?_⟩
        go_simp
        clear z0 z1 z2 z3 u2 u1 y0 y1 y2 y3 d0 d1 d2 d3
        go_wp2
        go_roundw
        case rel => exact ⟨i + 1, by omega, by go_num, HN.out⟩
        case measure => simp [intOf]; omega
      · obtain ⟨⟨c0, c1, c2, c3⟩, _⟩ := row4 HI.out.2.2.2.2.2
        obtain ⟨_, t0, t1, t2, t3, t4, t5, t6, t7, t8⟩ := row9 HI.out.2.2.2.2.1
        have hI : ¬ ((fr + i : Nat) : Int) < (to_ : Int) := by omega
        go_wp2
        have hB9 := below9 (Below.refl w.heap.size wr) (B := w.heap.size + 1) (by omega) (.int .u64 (o0 : Int)) (.int .u64 (o1 : Int)) (.int .u64 (o2 : Int)) (.int .u64 (o3 : Int)) (.int .u64 (o0 : Int)) (.int .u64 (o1 : Int)) (.int .u64 (o2 : Int)) (.int .u64 (o3 : Int)) (.bool false)
        have hs9 := same9 wr (w.heap.size + 1) (.int .u64 (o0 : Int)) (.int .u64 (o1 : Int)) (.int .u64 (o2 : Int)) (.int .u64 (o3 : Int)) (.int .u64 (o0 : Int)) (.int .u64 (o1 : Int)) (.int .u64 (o2 : Int)) (.int .u64 (o3 : Int)) (.bool false)
        have hi2 : i = to_ - fr := by omega
        have hrd := HI.out.1
        rw [hi2] at hrd
        refine bodyPost_ret (results_cell_row rfl _ _ (w.heap.size + 1) _ _ (0, 0) _ rfl (set9 HI.out.2.2.2.2.1 _ _ _ _ _ _ _ _ _) rfl rfl rfl) rfl ⟨rfl, ⟨g, cap, by have := HG.out; omega, hrd.same hs9 (hB9.mono (by omega)) (fun k hk e => by have := HG.out; rcases hk with hk | hk | hk | hk <;> omega)⟩, HI.out.2.1.kept hB9, HI.out.2.2.1.trans (hB9.mono (by omega))⟩
end Go.Proofs.YtphjbbbnbmafnabGreatDoor.G

namespace Go.Proofs.YtphjbbbnbmafnabGreatDoor.G
open Go.RowKit Go.Shelf Go.Proofs.YtphjbbbnbmafnabGreatDoor.RxM

/-- behind a part that was read: the reader, what it laid, what is known of the part -/
def After (w w' : World) (base R X n gb gt ct : Nat) (ss ts : List S4) (s2 : ByteArray) (uc2 : Bool) (t : Rx) (P : P4) : Prop :=
  ∃ ss2 ts2, Moved w w' base R X s2 n uc2 gb gt ct ss2 ts2 ∧ Laid t ss ts ss2 ts2 ∧ IsPart P t ss.length ∧ Same w w' (Four R X gb gt) ∧ Below base w w'
/-- a piece of a row -/
def PieceTo (n : Nat) (q : List Nat) (t : Rx) : Prop := ∀ q0 r p, RowTo n q0 r p → RowTo n (q0 ++ q) (ab r p) (some t)
def PieceDead (n : Nat) (s : List Nat) : Prop := ∀ q0 r p, RowTo n q0 r p → RowDead n (q0 ++ s)
def NoPiece (n : Nat) (s : List Nat) : Prop := ∀ c l, s = c :: l → c ≠ 40 ∧ c ≠ 46 ∧ ¬ (97 ≤ c ∧ c < 97 + n)
def PiecePost (base R X n : Nat) (s : ByteArray) (uc : Bool) (gb gt ct : Nat) (ss ts : List S4) (w : World) (e : Ending) (w' : World) : Prop :=
  (e = .returned (.tuple #[vp (z4, z4, false), .bool false]) ∧ Below w.heap.size w w' ∧ NoPiece n (codes s)) ∨
  (∃ P t s2 uc2, e = .returned (.tuple #[vp P, .bool true]) ∧ After w w' base R X n gb gt ct ss ts s2 uc2 t P ∧ s2.size < s.size ∧ ((uc2 = uc ∧ ∃ q, codes s = q ++ codes s2 ∧ PieceTo n q t) ∨ (uc2 = true ∧ PieceDead n (codes s))))
def RowPost (base R X n : Nat) (s : ByteArray) (uc : Bool) (gb gt ct : Nat) (ss ts : List S4) (w : World) (e : Ending) (w' : World) : Prop :=
  ∃ P t s2 uc2, e = .returned (vp P) ∧ After w w' base R X n gb gt ct ss ts s2 uc2 t P ∧ s2.size ≤ s.size ∧ ((uc2 = uc ∧ ∃ q r p, codes s = q ++ codes s2 ∧ RowTo n q r p ∧ t = ab r p ∧ StopR n (codes s2) p) ∨ (uc2 = true ∧ RowDead n (codes s)))
def ChoPost (base R X n : Nat) (s : ByteArray) (uc : Bool) (gb gt ct : Nat) (ss ts : List S4) (w : World) (e : Ending) (w' : World) : Prop :=
  ∃ P t s2 uc2, e = .returned (vp P) ∧ After w w' base R X n gb gt ct ss ts s2 uc2 t P ∧ s2.size ≤ s.size ∧ ((uc2 = uc ∧ ∃ q f, codes s = q ++ codes s2 ∧ ChoTo n q f ∧ t = fin f ∧ Stop n (codes s2) f.2.2) ∨ (uc2 = true ∧ ChoDead n (codes s)))
/-- choice keeps its word for shorter texts -/
def ChoC (N : Nat) : Prop := ∀ base R X s n uc gb cb gt ct ss ts w, s.size < N → Rdr w base R X s n uc gb cb gt ct ss ts → Calls Tryz.prog 53 #[.pointer (some ⟨R, 0, none⟩)] w (ChoPost base R X n s uc gb gt ct ss ts w)
def PieC (N : Nat) : Prop := ∀ base R X s n uc gb cb gt ct ss ts w, s.size < N → Rdr w base R X s n uc gb cb gt ct ss ts → Calls Tryz.prog 107 #[.pointer (some ⟨R, 0, none⟩)] w (PiecePost base R X n s uc gb gt ct ss ts w)
def RowC (N : Nat) : Prop := ∀ base R X s n uc gb cb gt ct ss ts w, s.size < N → Rdr w base R X s n uc gb cb gt ct ss ts → Calls Tryz.prog 83 #[.pointer (some ⟨R, 0, none⟩)] w (RowPost base R X n s uc gb gt ct ss ts w)
theorem four_trans {w w1 w2 : World} {R X gb g gt : Nat} (h : Same w w1 (Four R X gb gt)) (h2 : Same w1 w2 (Four R X g gt)) (hg : g = gb ∨ w.heap.size ≤ g) : Same w w2 (Four R X gb gt) :=
  (h.trans h2).mono fun k hk e => by
    rcases e with e | e | e | e | e
    · exact e
    · exact .inl e
    · exact .inr (.inl e)
    · rcases hg with hg | hg
      · exact .inr (.inr (.inl (e.trans hg)))
      · omega
    · exact .inr (.inr (.inr e))
theorem four_set (w : World) {R X gb gt i : Nat} (v : Value) : Same w (w.setCell ⟨R, i, none⟩ v) (Four R X gb gt) := (Same.set w ⟨R, i, none⟩ v).mono fun _ _ e => .inl e
theorem four_below {w w1 : World} {R X gb gt : Nat} (h : Below w.heap.size w w1) : Same w w1 (Four R X gb gt) := (Same.below h).mono fun _ _ e => e.elim
theorem piece_point (n : Nat) : PieceTo n [46] (.sym none) := fun _ _ _ h => h.point
theorem piece_letter {n c : Nat} (hc : c < n) (hn : n ≤ 26) : PieceTo n [97 + c] (.sym (some c)) := fun _ _ _ h => h.letter hc hn
theorem piece_bracket {n : Nat} {q : List Nat} {f : Fr} (h : ChoTo n q f) : PieceTo n (40 :: (q ++ [41])) (fin f) := fun _ _ _ h0 => h0.bracket h
theorem piece_in {n : Nat} {s : List Nat} (h : ChoDead n s) : PieceDead n (40 :: s) := fun _ _ _ h0 => rowDead_in h0 h
theorem piece_open {n : Nat} {q s : List Nat} {f : Fr} (h : ChoTo n q f) (hs : Stop n s f.2.2) (hn : ∀ s2, s ≠ 41 :: s2) : PieceDead n (40 :: (q ++ s)) := fun _ _ _ h0 => rowDead_open h0 h hs hn
theorem range_has {c : Nat} {a b : Nat} (hab : a ≤ b) : c ∈ List.range' a (b - a) ↔ a ≤ c ∧ c < b := by rw [List.mem_range'_1]; omega
theorem laid_point {n : Nat} {ss ts : List S4} (hk : ss.length < 256) (ht : ts.length = n) : Laid (.sym none) ss ts (ss ++ [z4]) (linkAll (one4 ss.length) ts (List.range' 0 (n - 0))) :=
  laid_sym none ss ts _ (linkAll_len _ _ _) fun c q hc => by
    rw [linkAll_get _ _ _ _ _ hc, mem4_one hk, decide_eq_true ((range_has (Nat.zero_le n)).2 ⟨Nat.zero_le c, by omega⟩)]
    simp [takes]
theorem laid_letter {l : Nat} {ss ts : List S4} (hk : ss.length < 256) : Laid (.sym (some l)) ss ts (ss ++ [z4]) (linkAll (one4 ss.length) ts (List.range' l (l + 1 - l))) :=
  laid_sym (some l) ss ts _ (linkAll_len _ _ _) fun c q hc => by
    rw [linkAll_get _ _ _ _ _ hc, mem4_one hk]
    congr 1
    have : decide (c ∈ List.range' l (l + 1 - l)) = (l == c) := by
      rw [Bool.eq_iff_iff, decide_eq_true_eq, range_has (by omega), beq_iff_eq]
      omega
    rw [this, Bool.and_comm]
    rfl
theorem xonly_any (u : Nat) (hu : u ≤ 26) (w : World) : Calls Tryz.prog 61 #[.int .i64 (u : Int)] w fun e w' => e = .returned (.agg #[.int .i64 (u : Int), .int .i64 ((u + 1 : Nat) : Int)]) ∧ Below w.heap.size w w' := by
  have h1 : wrap64 ((u : Int) + 1) = ((u + 1 : Nat) : Int) := by unfold wrap64; omega
  go_enter Tryz.func61, Tryz.ntmps61
  go_wp2
  refine bodyPost_ret (v := .agg #[.int .i64 (u : Int), .int .i64 ((u + 1 : Nat) : Int)]) (by simp [results, Tryz.results61, go_sem]) rfl ?_
  exact ⟨rfl, below1 _ _⟩
theorem results_cell_row2 {P : Program} {fn : Func} {p u : Tmp} {ty : TypeId} (h : fn.results = #[.cell p ty, .tmp u]) (tmps : Array Value) (w : World) (g : Nat) (t : TypeId) (cs : Array Value) (fr : Nat × Nat) (d : TypeDesc) (v : Value)
    (hp : tmps.getD p undef = .pointer (some ⟨g, 0, none⟩)) (hv : tmps.getD u undef = v) (hg : w.heap[g]? = some (.cells cs t fr))
    (hu : P.underlying ty = some d) (hd : (match d with | .struct _ | .array _ _ => true | _ => false) = true) (hi : (P.info? ty).map (·.size) = some cs.size) :
    (results fn tmps).run P w = .ok (.tuple #[.agg cs, v]) w := by
  have hp' : tmps[p]?.getD undef = .pointer (some ⟨g, 0, none⟩) := by simpa using hp
  have hv' : tmps[u]?.getD undef = v := by simpa using hv
  simp [results, h, hp', hv', asAddr, run_loadVar_row w g t ty cs fr d hg hu hd hi]
end Go.Proofs.YtphjbbbnbmafnabGreatDoor.G
