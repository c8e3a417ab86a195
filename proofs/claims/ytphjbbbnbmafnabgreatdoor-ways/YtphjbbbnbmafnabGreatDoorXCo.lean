/-
  The walk's come: ways lead to a node, and stand at some places there.
-/
import Derived.Test.YtphjbbbnbmafnabGreatDoorXWk
import Derived.Test.YtphjbbbnbmafnabGreatDoorXQt
namespace Go.Proofs.YtphjbbbnbmafnabGreatDoor.G
open Go.RowKit Go.Shelf Go.Proofs.YtphjbbbnbmafnabGreatDoor.RxM

attribute [local go_sem] Oper.semAt_some
variable {outs : Nat → List E3}
/-- what came of it -/
def ComePost (outs : Nat → List E3) (w : World) (base K Gp X n gs : Nat) (wv : Value) (l2 : List Wst) (wait2 : List Nat) (w' : World) : Prop :=
  Same w w' (fun k => k = K ∨ k = gs ∨ wv.ownBlock = some k) ∧ Below base w w' ∧ ∃ wv', (∀ g, wv'.ownBlock = some g → wv.ownBlock = some g ∨ w.heap.size ≤ g) ∧ WkAt outs w' base K Gp X n gs wv' l2 wait2
theorem setempty_is (s : S4) (w : World) : Calls Tryz.prog 88 #[.agg #[.int .u64 (s.1 : Int), .int .u64 (s.2.1 : Int), .int .u64 (s.2.2.1 : Int), .int .u64 (s.2.2.2 : Int)]] w fun e w' => e = .returned (.bool (decide (s = z4))) ∧ Below w.heap.size w w' := by
  refine (setempty_any s.1 s.2.1 s.2.2.1 s.2.2.2 w).mono ?_
  rintro e w' ⟨rfl, h⟩
  refine ⟨?_, h⟩
  congr 2
  refine decide_eq_decide.2 ?_
  obtain ⟨a, b, c, d⟩ := s
  simp
theorem own_seen {W : World} {base g n : Nat} {l : List Wst} (h : OwnSts W base g n l) {v : Nat} {x : Wst} (hx : l[v]? = some x) (s : S4) : OwnSts ((((W.setCell ⟨g, v * 10, none⟩ (.int .u64 (s.1 : Int))).setCell ⟨g, v * 10 + 1, none⟩ (.int .u64 (s.2.1 : Int))).setCell ⟨g, v * 10 + 2, none⟩ (.int .u64 (s.2.2.1 : Int))).setCell ⟨g, v * 10 + 3, none⟩ (.int .u64 (s.2.2.2 : Int))) base g n (l.set v (s, x.2)) := by
  unfold OwnSts
  rw [← flat10_seen l v x hx s]
  exact ((((h.stored (v * 10) _).1.stored (v * 10 + 1) _).1.stored (v * 10 + 2) _).1.stored (v * 10 + 3) _).1
theorem own_fresh {W : World} {base g n : Nat} {l : List Wst} (h : OwnSts W base g n l) {v : Nat} {x : Wst} (hx : l[v]? = some x) (s : S4) : OwnSts ((((W.setCell ⟨g, v * 10 + 4, none⟩ (.int .u64 (s.1 : Int))).setCell ⟨g, v * 10 + 5, none⟩ (.int .u64 (s.2.1 : Int))).setCell ⟨g, v * 10 + 6, none⟩ (.int .u64 (s.2.2.1 : Int))).setCell ⟨g, v * 10 + 7, none⟩ (.int .u64 (s.2.2.2 : Int))) base g n (l.set v (x.1, s, x.2.2)) := by
  unfold OwnSts
  rw [← flat10_fresh l v x hx s]
  exact ((((h.stored (v * 10 + 4) _).1.stored (v * 10 + 5) _).1.stored (v * 10 + 6) _).1.stored (v * 10 + 7) _).1
/-- the places of a node's ways are written -/
theorem WkAt.seen {W : World} {base K Gp X n gs : Nat} {wv : Value} {l : List Wst} {wait : List Nat} (h : WkAt outs W base K Gp X n gs wv l wait) {v : Nat} {x : Wst} (hx : l[v]? = some x) (s : S4) (hs : ok4 s) : WkAt outs ((((W.setCell ⟨gs, v * 10, none⟩ (.int .u64 (s.1 : Int))).setCell ⟨gs, v * 10 + 1, none⟩ (.int .u64 (s.2.1 : Int))).setCell ⟨gs, v * 10 + 2, none⟩ (.int .u64 (s.2.2.1 : Int))).setCell ⟨gs, v * 10 + 3, none⟩ (.int .u64 (s.2.2.2 : Int))) base K Gp X n gs wv (l.set v (s, x.2)) wait :=
  h.wrote (same4 _ _ _ _ _ _ _ _ _ _) (own_seen h.os hx s) (by rw [List.length_set]; exact h.len) (set_ok h.ok v ⟨hs, (h.ok x (List.mem_of_getElem? hx)).2⟩) (fun u x' h1 _ => set_ed (s := s) (f := x.2.1) hx u x' h1)
theorem WkAt.fresh {W : World} {base K Gp X n gs : Nat} {wv : Value} {l : List Wst} {wait : List Nat} (h : WkAt outs W base K Gp X n gs wv l wait) {v : Nat} {x : Wst} (hx : l[v]? = some x) (s : S4) (hs : ok4 s) : WkAt outs ((((W.setCell ⟨gs, v * 10 + 4, none⟩ (.int .u64 (s.1 : Int))).setCell ⟨gs, v * 10 + 5, none⟩ (.int .u64 (s.2.1 : Int))).setCell ⟨gs, v * 10 + 6, none⟩ (.int .u64 (s.2.2.1 : Int))).setCell ⟨gs, v * 10 + 7, none⟩ (.int .u64 (s.2.2.2 : Int))) base K Gp X n gs wv (l.set v (x.1, s, x.2.2)) wait :=
  h.wrote (same4 _ _ _ _ _ _ _ _ _ _) (own_fresh h.os hx s) (by rw [List.length_set]; exact h.len) (set_ok h.ok v ⟨(h.ok x (List.mem_of_getElem? hx)).1, hs⟩) (fun u x' h1 _ => set_ed (s := x.1) (f := s) hx u x' h1)
theorem same_own {w w2 : World} {wv : Value} {g : Nat} (hg : (wv.ownBlock = some g ∧ w.grownBy w2 (some g)) ∨ (g = w.heap.size ∧ w.grownBy w2 none)) : Same w w2 (fun k => wv.ownBlock = some k) := by
  rcases hg with ⟨h1, h2⟩ | ⟨_, h2⟩
  · exact (Same.grown h2).mono fun k _ e => by rw [h1]; exact e
  · exact (Same.grown h2).mono fun k _ e => by cases e
theorem ints_snoc (l : List Nat) (v : Nat) : ints (l ++ [v]) = ints l ++ [.int .i64 (v : Int)] := by unfold ints; simp
/-- a node is put behind those that wait -/
theorem WkAt.push {w w2 : World} {base K Gp X n gs : Nat} {wv : Value} {l : List Wst} {wait : List Nat} (h : WkAt outs w base K Gp X n gs wv l wait) (v g cap : Nat) (hown : w2.ownsRow base 3 1 (.slice (some ⟨g, 0, none⟩) (wait.length + 1) cap) (wait.length + 1) (ints wait ++ [.int .i64 (v : Int)])) (hg : (wv.ownBlock = some g ∧ w.grownBy w2 (some g)) ∨ (g = w.heap.size ∧ w.grownBy w2 none)) :
    WkAt outs (w2.setCell ⟨K, 3, none⟩ (.slice (some ⟨g, 0, none⟩) (wait.length + 1) cap)) base K Gp X n gs (.slice (some ⟨g, 0, none⟩) (wait.length + 1) cap) l (wait ++ [v]) ∧ Same w (w2.setCell ⟨K, 3, none⟩ (.slice (some ⟨g, 0, none⟩) (wait.length + 1) cap)) (fun k => k = K ∨ k = gs ∨ wv.ownBlock = some k) ∧ Below base w (w2.setCell ⟨K, 3, none⟩ (.slice (some ⟨g, 0, none⟩) (wait.length + 1) cap)) ∧ (wv.ownBlock = some g ∨ w.heap.size ≤ g) := by
  have hlt := h.lt
  have hs1 : Same w w2 (fun k => wv.ownBlock = some k) := by
    rcases hg with ⟨h1, h2⟩ | ⟨_, h2⟩
    · exact (Same.grown h2).mono fun k _ e => by rw [h1]; exact e
    · exact (Same.grown h2).mono fun k _ e => by cases e
  have hs2 := Same.set w2 ⟨K, 3, none⟩ (.slice (some ⟨g, 0, none⟩) (wait.length + 1) cap)
  have hgg : wv.ownBlock = some g ∨ w.heap.size ≤ g := by
    rcases hg with ⟨e, _⟩ | ⟨e, _⟩
    · exact .inl e
    · exact .inr (by omega)
  have hgK : g ≠ K ∧ g ≠ gs := by
    rcases hgg with e | e
    · exact h.ne.2 g e
    · omega
  have hb1 : Below base w w2 := by
    have := h.bs
    rcases hg with ⟨e, hg⟩ | ⟨_, hg⟩
    · exact (Below.refl base w).grown hg (by omega) (fun k e2 => by injection e2 with e2; subst e2; exact (hlt.2.2 g e).1)
    · exact (Below.refl base w).grown hg (by omega) (fun k e2 => by cases e2)
  have hn1 : ∀ k, wv.ownBlock = some k → k ≠ K ∧ k ≠ gs := h.ne.2
  refine ⟨⟨?_, ?_, ?_, h.len, h.ok, ⟨h.ne.1, fun k e => ?_⟩, h.bs, fun u x hx ha => ?_⟩, (hs1.trans hs2).mono fun k _ e => e.elim (fun e => .inr (.inr e)) .inl, hb1.setCell (p := ⟨K, 3, none⟩) h.bs.1 _, hgg⟩
  · exact xset_row w2 K 3 _ _ _ _ (hs1.row h.rK fun e => (hn1 K e).1 rfl)
  · refine own_same (own_same h.os hs1 fun k e => ?_) hs2 fun k e => ?_
    · simp only [Value.ownBlock, Option.some.injEq] at e; subst e; exact fun e => (hn1 _ e).2 rfl
    · simp only [Value.ownBlock, Option.some.injEq] at e; subst e; exact fun e => h.ne.1 e.symm
  · rw [List.length_append, List.length_singleton, ints_snoc]
    exact own_same hown hs2 fun k e => by simp only [Value.ownBlock, Option.some.injEq] at e; subst e; exact hgK.1
  · simp only [Value.ownBlock, Option.some.injEq] at e; subst e; exact hgK
  · have he := h.ed u x hx ha
    refine ⟨own_same (own_same he.1 hs1 fun k e => (he.2 k e).2.2) hs2 fun k e => (he.2 k e).1, fun k e => ⟨(he.2 k e).1, (he.2 k e).2.1, fun e2 => ?_⟩⟩
    simp only [Value.ownBlock, Option.some.injEq] at e2
    subst e2
    rcases hgg with e3 | e3
    · exact (he.2 g e).2.2 e3
    · have := (he.1.lt g e).2; omega
theorem Tryz.infoIn : (Tryz.prog.info? 3).map (fun i => (i.zero, i.size, i.bytes)) = some (some (.int .i64 0), 1, 8) := by kernel_rfl
set_option maxRecDepth 100000 in
set_option maxHeartbeats 16000000 in
theorem come_any (base K Gp X n gs : Nat) (wv : Value) (l : List Wst) (wait : List Nat) (v : Nat) (x : Wst) (hx : l[v]? = some x) (at_ : S4) (hat : ok4 at_) (w : World) (h : WkAt outs w base K Gp X n gs wv l wait) (hwl : wait.length ≤ 10000000) :
    Calls Tryz.prog 56 #[.pointer (some ⟨K, 0, none⟩), .int .i64 (v : Int), .agg (v4 at_)] w fun e w' => e = .returned (.tuple #[]) ∧ ComePost outs w base K Gp X n gs wv (if wo4 at_ x.1 = z4 then l else l.set v (or4 x.1 (wo4 at_ x.1), or4 x.2.1 (wo4 at_ x.1), x.2.2)) (if wo4 at_ x.1 = z4 then wait else if x.2.1 = z4 then wait ++ [v] else wait) w' := by
  have hv : v < n := by rw [← h.len]; exact (List.getElem?_eq_some_iff.1 hx).1
  have hlt := h.lt
  have hbs := h.bs
  have hxok := h.ok x (List.mem_of_getElem? hx)
  obtain ⟨a0, a1, a2, a3⟩ := at_
  simp only [v4]
  obtain ⟨⟨s0, s1, s2, s3⟩, ⟨r0, r1, r2, r3⟩, ev, ab_⟩ := x
  obtain ⟨W0, hW0⟩ : ∃ W0, W0 = w.alloc (.cells #[.int .u64 (a0 : Int), .int .u64 (a1 : Int), .int .u64 (a2 : Int), .int .u64 (a3 : Int)] 114) := ⟨_, rfl⟩
  have hJ : Below w.heap.size w W0 := by rw [hW0]; exact below1 _ _
  have q0 : W0.heap[w.heap.size]? = some (.cells #[.int .u64 (a0 : Int), .int .u64 (a1 : Int), .int .u64 (a2 : Int), .int .u64 (a3 : Int)] 114 (0, 0)) := by rw [hW0]; exact heap_alloc_new w _
  have hs0 : w.heap.size < W0.heap.size := by rw [hW0]; simp
  have hw0 := h.below hJ
  obtain ⟨f0, f1, f2, f3, f4, f5, f6, f7, f8, f9⟩ := flat10_at l v _ hx
  have e0 := (hw0.os.cellAt (v * 10) (by omega)).trans f0
  have e1 := (hw0.os.cellAt (v * 10 + 1) (by omega)).trans f1
  have e2 := (hw0.os.cellAt (v * 10 + 2) (by omega)).trans f2
  have e3 := (hw0.os.cellAt (v * 10 + 3) (by omega)).trans f3
  simp only at e0 e1 e2 e3
  obtain ⟨⟨_, _, c2, _⟩, _⟩ := row4 hw0.rK
  obtain ⟨⟨d0, d1, d2, d3⟩, _⟩ := row4 q0
  have hwo := fun W => setwo_any a0 a1 a2 a3 s0 s1 s2 s3 hat.1 hat.2.1 hat.2.2.1 hat.2.2.2 hxok.1.1 hxok.1.2.1 hxok.1.2.2.1 hxok.1.2.2.2 W
  obtain ⟨z, hz⟩ : ∃ z, wo4 (a0, a1, a2, a3) (s0, s1, s2, s3) = z := ⟨_, rfl⟩
  have hzok : ok4 z := by rw [← hz]; exact ok4_wo hat
  simp only [hz]
  obtain ⟨l2, hl2⟩ : ∃ l2, (if z = z4 then l else l.set v (or4 (s0, s1, s2, s3) z, or4 (r0, r1, r2, r3) z, ev, ab_)) = l2 := ⟨_, rfl⟩
  obtain ⟨t2, ht2⟩ : ∃ t2, (if z = z4 then wait else if (r0, r1, r2, r3) = z4 then wait ++ [v] else wait) = t2 := ⟨_, rfl⟩
  rw [hl2, ht2]
  have HL2 : Hid _ := hl2
  have HT2 : Hid _ := ht2
  clear hl2 ht2
  obtain ⟨z0, z1, z2, z3⟩ := z
  have g0 : a0 &&& (18446744073709551615 - s0) = z0 := congrArg (·.1) hz
  have g1 : a1 &&& (18446744073709551615 - s1) = z1 := congrArg (·.2.1) hz
  have g2 : a2 &&& (18446744073709551615 - s2) = z2 := congrArg (·.2.2.1) hz
  have g3 : a3 &&& (18446744073709551615 - s3) = z3 := congrArg (·.2.2.2) hz
  rw [g0, g1, g2, g3] at hwo
  have HWo : Hid (∀ W, Calls Tryz.prog 87 _ W _) := hwo
  clear g0 g1 g2 g3 hwo
  have HW1 : Hid _ := hw0
  have HJ : Hid _ := hJ
  have hvI : (v : Int) < (n : Int) := by omega
  have HX : Hid _ := hx
  clear hz hw0 hJ q0 f0 f1 f2 f3 f4 f5 f6 f7 f8 f9 h hx
  go_enter Tryz.func56, Tryz.ntmps56
  go_upto_region 1 with fail
  rw [← hW0]
  have HW0 : Hid _ := hW0
  clear hW0
  go_upto_region 2 with fail
  go_cut [7] (fun s7 wx => ∃ b7, s7 = .pointer (some ⟨b7, 0, none⟩) ∧ Hid (W0.heap.size ≤ b7 ∧ wx.heap[b7]? = some (.cells #[.int .u64 (z0 : Int), .int .u64 (z1 : Int), .int .u64 (z2 : Int), .int .u64 (z3 : Int)] 114 (0, 0)) ∧ Below W0.heap.size W0 wx))
  case first =>
    have y0 := fun o => cell_kept (below1 W0 o) _ _ e0
    have y1 := fun o => cell_kept (below1 W0 o) _ _ e1
    have y2 := fun o => cell_kept (below1 W0 o) _ _ e2
    have y3 := fun o => cell_kept (below1 W0 o) _ _ e3
    have x0 := fun o => cell_kept (below1 W0 o) _ _ d0
    have x1 := fun o => cell_kept (below1 W0 o) _ _ d1
    have x2 := fun o => cell_kept (below1 W0 o) _ _ d2
    have x3 := fun o => cell_kept (below1 W0 o) _ _ d3
    go_region_with (refine (HWo.out _).mono ?_; rintro r w1 ⟨rfl, hB1⟩; try obtain ⟨⟨p0, p1, p2, p3⟩, p4, p5, p6, p7⟩ := row4 (heap_keep hB1 (heap_alloc_new W0 (.cells #[.int .u64 0, .int .u64 0, .int .u64 0, .int .u64 0] 114))))
    all_goals
      go_wp2_with fail
      go_meet
      case rel =>
        first
          | exact ⟨w1.heap.size, rfl, (((Below.refl W0.heap.size W0).drew).trans hB1).size, heap_alloc_new w1 _, (((Below.refl W0.heap.size W0).drew).trans hB1).alloc (((Below.refl W0.heap.size W0).drew).trans hB1).size _⟩
          | exact ⟨W0.heap.size, rfl, Nat.le_refl _, set4 (heap_keep hB1 (heap_alloc_new W0 (.cells #[.int .u64 0, .int .u64 0, .int .u64 0, .int .u64 0] 114))) _ _ _ _, set4_below (((below1 W0 (.cells #[.int .u64 0, .int .u64 0, .int .u64 0, .int .u64 0] 114)).drew).trans (hB1.mono (by simp))) (Nat.le_refl _) _ _ _ _⟩
  case rest =>
    obtain ⟨b7, rfl, HC⟩ := hcut
    have HD : Hid (_ ∧ _ ∧ _) := HC.out
    clear HC e0 e1 e2 e3 c2 d0 d1 d2 d3
    have hb7 := HD.out.1
    obtain ⟨⟨t0, t1, t2, t3⟩, _⟩ := row4 HD.out.2.1
    have HEm : Hid (∀ W, Calls Tryz.prog 88 #[.agg #[.int .u64 (z0 : Int), .int .u64 (z1 : Int), .int .u64 (z2 : Int), .int .u64 (z3 : Int)]] W _) := fun W => setempty_is (z0, z1, z2, z3) W
    have HEr : Hid (∀ W, Calls Tryz.prog 88 #[.agg #[.int .u64 (r0 : Int), .int .u64 (r1 : Int), .int .u64 (r2 : Int), .int .u64 (r3 : Int)]] W _) := fun W => setempty_is (r0, r1, r2, r3) W
    have HOr1 : Hid (∀ W, Calls Tryz.prog 85 _ W _) := fun W => setor_any s0 s1 s2 s3 z0 z1 z2 z3 hxok.1.1 hxok.1.2.1 hxok.1.2.2.1 hxok.1.2.2.2 hzok.1 hzok.2.1 hzok.2.2.1 hzok.2.2.2 W
    have HOr2 : Hid (∀ W, Calls Tryz.prog 85 _ W _) := fun W => setor_any r0 r1 r2 r3 z0 z1 z2 z3 hxok.2.1 hxok.2.2.1 hxok.2.2.2.1 hxok.2.2.2.2 hzok.1 hzok.2.1 hzok.2.2.1 hzok.2.2.2 W
    go_wp2_with fail
    refine (HEm.out wc).mono ?_
    rintro e w3 ⟨rfl, hB3⟩
    have hBw3 : Below w.heap.size w w3 := (HJ.out.trans (HD.out.2.2.mono (Nat.le_of_lt hs0))).trans (hB3.mono (Nat.le_trans (Nat.le_of_lt hs0) HD.out.2.2.size))
    have hW3 := (HW1.out.below HD.out.2.2).below hB3
    have hb7w := heap_keep hB3 HD.out.2.1
    have hz3 : b7 < w3.heap.size := (Array.getElem?_eq_some_iff.1 hb7w).1
    have HE : Hid (_ ∧ _ ∧ _) := ⟨hBw3, hW3, hb7w⟩
    clear hBw3 hb7w hB3 t0 t1 t2 t3
    by_cases hzz : (z0, z1, z2, z3) = z4
    · rw [decide_eq_true hzz]
      have hl2 : l2 = l := by rw [← HL2.out, if_pos hzz]
      have ht2 : t2 = wait := by rw [← HT2.out, if_pos hzz]
      go_wp2
      exact bodyPost_ret (results_none rfl _ _ _) rfl ⟨rfl, (Same.below HE.out.1).mono (fun _ _ e => e.elim), HE.out.1.mono (by omega), wv, fun g e => .inl e, by rw [hl2, ht2]; exact HE.out.2.1⟩
    · rw [decide_eq_false hzz]
      obtain ⟨_, _, _, _, f4, f5, f6, f7, _⟩ := flat10_at l v _ HX.out
      have hvl : v * 10 + 7 < n * 10 := by omega
      have e4 := (hW3.os.cellAt (v * 10 + 4) (by omega)).trans f4
      have e5 := (hW3.os.cellAt (v * 10 + 5) (by omega)).trans f5
      have e6 := (hW3.os.cellAt (v * 10 + 6) (by omega)).trans f6
      have e7 := (hW3.os.cellAt (v * 10 + 7) (by omega)).trans f7
      simp only at e4 e5 e6 e7
      clear f4 f5 f6 f7 hW3
      go_wp2_with fail
      refine (HEr.out w3).mono ?_
      rintro e w4 ⟨rfl, hB4⟩
      have hW4 := HE.out.2.1.below hB4
      have HA4 : Hid (_ ∧ _ ∧ _ ∧ _) := ⟨hW4, (Same.below (chain HE.out.1 hB4)).mono (T := fun k => k = K ∨ k = gs ∨ wv.ownBlock = some k) (fun _ _ e => e.elim), (chain HE.out.1 hB4).mono (show base ≤ w.heap.size by omega), heap_keep hB4 HE.out.2.2⟩
      have hz4 : w3.heap.size ≤ w4.heap.size := hB4.size
      clear e4 e5 e6 e7 hB4
      by_cases hrr : (r0, r1, r2, r3) = z4
      · rw [decide_eq_true hrr]
        have HQ : Hid (l2 = l.set v (or4 (s0, s1, s2, s3) (z0, z1, z2, z3), or4 (r0, r1, r2, r3) (z0, z1, z2, z3), ev, ab_) ∧ t2 = (wait ++ [v])) := (⟨by rw [← HL2.out, if_neg hzz], by rw [← HT2.out, if_neg hzz, if_pos hrr]⟩ : _ ∧ _)
        clear hrr hzz
        obtain ⟨⟨_, _, _, p3⟩, _, _, _, pf⟩ := row4 hW4.rK
        have p3a := fun o => cell_kept (below1 w4 o) _ _ p3
        obtain ⟨i1, hi1, hy0, hy1, hy2⟩ := info_parts Tryz.infoIn
        clear hW4
        go_wp2_with (at_builtin; refine wpList_append_keep _ rfl _ _ 22 rfl base 3 i1 (.int .i64 0) 1 8 Tryz.underlying22 hi1 hy0 hy1 hy2 rfl (by decide) _ _ _ rfl (HA4.out.1.ow.alloc _) ⟨w4.heap.size, 0, none⟩ 1 1 [.int .i64 (v : Int)] rfl rfl (World.news_of_block (cs := #[.int .i64 (v : Int)]) (t := 3) (fr := (0, 0)) (heap_alloc_new w4 _)) (by simp [Value.oneCell']) (by omega) (by unfold maxLen; omega) (by omega) (by simp; omega) ?_; intro g5 cap5 w5 hown5 hg5; have hrK := (same_own hg5).row (heap_keep (below1 w4 _) HA4.out.1.rK) (fun e => (HA4.out.1.ne.2 K e).1 rfl); obtain ⟨⟨_, _, _, o3⟩, _, _, _, of⟩ := row4 hrK; clear hrK)
        have hps := (HA4.out.1.below (below1 w4 (.cells #[.int .i64 (v : Int)] 3))).push v g5 cap5 hown5 hg5
        have hbx := below1 w4 (.cells #[.int .i64 (v : Int)] 3)
        obtain ⟨wA, hwAe⟩ : ∃ wA, wA = w5.setCell ⟨K, 3, none⟩ (.slice (some ⟨g5, 0, none⟩) (wait.length + 1) cap5) := ⟨_, rfl⟩
        rw [← hwAe] at hps
        have hba : base ≤ w4.heap.size := by have := HA4.out.2.1.1; omega
        have hsz4 : w.heap.size ≤ w4.heap.size := HA4.out.2.1.1
        have hb7n : ∀ k, wv.ownBlock = some k → k ≠ b7 := fun k e => by have := (hlt.2.2 k e).2; omega
        have HA : Hid (_ ∧ _ ∧ _ ∧ _) := ⟨hps.1, ((HA4.out.2.1.trans (Same.below hbx)).trans hps.2.1).mono (T := fun k => k = K ∨ k = gs ∨ wv.ownBlock = some k) (fun k _ e => by rcases e with (e | e) | e; exact e; exact e.elim; exact e), (HA4.out.2.2.1.trans (hbx.mono hba)).trans hps.2.2.1, hps.2.1.row (heap_keep hbx HA4.out.2.2.2) (fun e => by rcases e with e | e | e; omega; omega; exact hb7n _ e rfl)⟩
        have HG : Hid (∀ g, (Value.slice (some ⟨g5, 0, none⟩) (wait.length + 1) cap5).ownBlock = some g → wv.ownBlock = some g ∨ w.heap.size ≤ g) := (fun g e => by
          simp only [Value.ownBlock, Option.some.injEq] at e
          subst e
          rcases hps.2.2.2 with e | e
          · exact .inl e
          · exact .inr (Nat.le_trans (Nat.le_trans hsz4 hbx.size) e) : ∀ g, (Value.slice (some ⟨g5, 0, none⟩) (wait.length + 1) cap5).ownBlock = some g → wv.ownBlock = some g ∨ w.heap.size ≤ g)
        clear hps hbx hown5 hg5 hb7n
        go_upto_region 6 with fail
        rw [← hwAe]
        clear hwAe o3 of p3 p3a pf
        have hwA := HA.out.1
        obtain ⟨f0, f1, f2, f3, f4, f5, f6, f7, _⟩ := flat10_at l v _ HX.out
        have e0 := (hwA.os.cellAt (v * 10) (by omega)).trans f0
        have e1 := (hwA.os.cellAt (v * 10 + 1) (by omega)).trans f1
        have e2 := (hwA.os.cellAt (v * 10 + 2) (by omega)).trans f2
        have e3 := (hwA.os.cellAt (v * 10 + 3) (by omega)).trans f3
        simp only at e0 e1 e2 e3
        obtain ⟨⟨t0, t1, t2', t3⟩, _⟩ := row4 HA.out.2.2.2
        have x0 := fun u => ext_cell e0 u
        have x1 := fun u => ext_cell e1 u
        have x2 := fun u => ext_cell e2 u
        have x3 := fun u => ext_cell e3 u
        have y0 := fun u => ext_cell t0 u
        have y1 := fun u => ext_cell t1 u
        have y2 := fun u => ext_cell t2' u
        have y3 := fun u => ext_cell t3 u
        clear hwA e0 e1 e2 e3 t0 t1 t2' t3 f0 f1 f2 f3 f4 f5 f6 f7
        refine region_plain_lastT (n := 9) rfl (by kernel_rfl) (by kernel_rfl) (by kernel_rfl) ?_
        simp only [List.dropLast]
        repeat (gi_big_quiet_step (fail))
        refine wpQuietIn_step (by intros; intro; intros; trivial) (fun K hK => ?_)
        rw [if_pos (show Region.wanted _ _ = true from rfl)]
        gi_big_quiet_op
        apply Exists.intro
        refine ⟨fun u => ?_, ?_⟩
        · first
            | (refine ⟨fun h => by cases h, (callsIn_wide.2 (HOr1.out _)).mono ?_⟩; rintro r w1 ⟨rfl, hB⟩; exact ⟨rfl, w1, ext_of (chain (ext_below _ _) hB)⟩)
            | (refine ⟨trivial, (callsIn_wide.2 (HOr1.out _)).mono ?_⟩; rintro r w1 ⟨rfl, hB⟩; exact ⟨rfl, w1, ext_of (chain (ext_below _ _) hB)⟩)
            | (refine (callsIn_wide.2 (HOr1.out _)).mono ?_; rintro r w1 ⟨rfl, hB⟩; exact ⟨rfl, w1, ext_of (chain (ext_below _ _) hB)⟩)
        refine hK _ ?_
        clear hK K
        repeat (gi_big_quiet_step (fail))
        refine wpQuietIn_nil ?_
        rintro wx ⟨u, rfl⟩
        have hB1 := ext_below wA u
        have hwx := HA.out.1.below hB1
        have k0 := hwx.os.frozenAt (v * 10)
        have k1 := hwx.os.frozenAt (v * 10 + 1)
        have k2 := hwx.os.frozenAt (v * 10 + 2)
        have k3 := hwx.os.frozenAt (v * 10 + 3)
        have hwB := hwx.seen HX.out (or4 (s0, s1, s2, s3) (z0, z1, z2, z3)) (ok4_or hxok.1 hzok)
        have hsB := same4 (ext wA u) gs (v * 10) (v * 10 + 1) (v * 10 + 2) (v * 10 + 3) (.int .u64 ((s0 ||| z0 : Nat) : Int)) (.int .u64 ((s1 ||| z1 : Nat) : Int)) (.int .u64 ((s2 ||| z2 : Nat) : Int)) (.int .u64 ((s3 ||| z3 : Nat) : Int))
        have hbB := below4 (Below.refl base (ext wA u)) (g := gs) hbs.2 (v * 10) (v * 10 + 1) (v * 10 + 2) (v * 10 + 3) (.int .u64 ((s0 ||| z0 : Nat) : Int)) (.int .u64 ((s1 ||| z1 : Nat) : Int)) (.int .u64 ((s2 ||| z2 : Nat) : Int)) (.int .u64 ((s3 ||| z3 : Nat) : Int))
        have hbas : base ≤ wA.heap.size := by have := HA.out.2.1.1; omega
        have HB : Hid (_ ∧ _ ∧ _ ∧ _) := ⟨hwB, ((HA.out.2.1.trans (Same.below hB1)).trans hsB).mono (T := fun k => k = K ∨ k = gs ∨ wv.ownBlock = some k) (fun k _ e => by rcases e with (e | e) | e; exact e; exact e.elim; exact .inr (.inl e)), (HA.out.2.2.1.trans (hB1.mono hbas)).trans hbB, hsB.row (heap_keep hB1 HA.out.2.2.2) (by omega)⟩
        clear hB1 hwx hwB hsB hbB
        simp only [List.getLast]
        refine ⟨by intros; trivial, ?_⟩
        go_simp
        clear k0 k1 k2 k3 x0 x1 x2 x3 y0 y1 y2 y3
        obtain ⟨wB, hwBe⟩ : ∃ wB, wB = (((((ext wA u).setCell ⟨gs, v * 10, none⟩ (.int .u64 ((s0 ||| z0 : Nat) : Int))).setCell ⟨gs, v * 10 + 1, none⟩ (.int .u64 ((s1 ||| z1 : Nat) : Int))).setCell ⟨gs, v * 10 + 2, none⟩ (.int .u64 ((s2 ||| z2 : Nat) : Int))).setCell ⟨gs, v * 10 + 3, none⟩ (.int .u64 ((s3 ||| z3 : Nat) : Int))) := ⟨_, rfl⟩
        have HB2 : Hid (WkAt outs wB base K Gp X n gs (.slice (some ⟨g5, 0, none⟩) (wait.length + 1) cap5) (l.set v (or4 (s0, s1, s2, s3) (z0, z1, z2, z3), (r0, r1, r2, r3), ev, ab_)) (wait ++ [v]) ∧ Same w wB (fun k => k = K ∨ k = gs ∨ wv.ownBlock = some k) ∧ Below base w wB ∧ wB.heap[b7]? = some (.cells #[.int .u64 (z0 : Int), .int .u64 (z1 : Int), .int .u64 (z2 : Int), .int .u64 (z3 : Int)] 114 (0, 0))) := (by rw [hwBe]; exact HB.out : _ ∧ _ ∧ _ ∧ _)
        rw [← hwBe]
        clear hwBe HB
        have hxB : (l.set v (or4 (s0, s1, s2, s3) (z0, z1, z2, z3), (r0, r1, r2, r3), ev, ab_))[v]? = some (or4 (s0, s1, s2, s3) (z0, z1, z2, z3), (r0, r1, r2, r3), ev, ab_) := List.getElem?_set_self (List.getElem?_eq_some_iff.1 HX.out).1
        have HXB : Hid _ := hxB
        have hwA := HB2.out.1
        obtain ⟨_, _, _, _, f4, f5, f6, f7, _⟩ := flat10_at _ v _ hxB
        have e0 := (hwA.os.cellAt (v * 10 + 4) (by omega)).trans f4
        have e1 := (hwA.os.cellAt (v * 10 + 5) (by omega)).trans f5
        have e2 := (hwA.os.cellAt (v * 10 + 6) (by omega)).trans f6
        have e3 := (hwA.os.cellAt (v * 10 + 7) (by omega)).trans f7
        simp only at e0 e1 e2 e3
        obtain ⟨⟨t0, t1, t2', t3⟩, _⟩ := row4 HB2.out.2.2.2
        have x0 := fun u => ext_cell e0 u
        have x1 := fun u => ext_cell e1 u
        have x2 := fun u => ext_cell e2 u
        have x3 := fun u => ext_cell e3 u
        have y0 := fun u => ext_cell t0 u
        have y1 := fun u => ext_cell t1 u
        have y2 := fun u => ext_cell t2' u
        have y3 := fun u => ext_cell t3 u
        clear hwA e0 e1 e2 e3 t0 t1 t2' t3 f4 f5 f6 f7 hxB
        go_upto_region 7 with fail
        refine region_plain_lastT (n := 9) rfl (by kernel_rfl) (by kernel_rfl) (by kernel_rfl) ?_
        simp only [List.dropLast]
        repeat (gi_big_quiet_step (fail))
        refine wpQuietIn_step (by intros; intro; intros; trivial) (fun K hK => ?_)
        rw [if_pos (show Region.wanted _ _ = true from rfl)]
        gi_big_quiet_op
        apply Exists.intro
        refine ⟨fun u => ?_, ?_⟩
        · first
            | (refine ⟨fun h => by cases h, (callsIn_wide.2 (HOr2.out _)).mono ?_⟩; rintro r w1 ⟨rfl, hB⟩; exact ⟨rfl, w1, ext_of (chain (ext_below _ _) hB)⟩)
            | (refine ⟨trivial, (callsIn_wide.2 (HOr2.out _)).mono ?_⟩; rintro r w1 ⟨rfl, hB⟩; exact ⟨rfl, w1, ext_of (chain (ext_below _ _) hB)⟩)
            | (refine (callsIn_wide.2 (HOr2.out _)).mono ?_; rintro r w1 ⟨rfl, hB⟩; exact ⟨rfl, w1, ext_of (chain (ext_below _ _) hB)⟩)
        refine hK _ ?_
        clear hK K
        repeat (gi_big_quiet_step (fail))
        refine wpQuietIn_nil ?_
        rintro wx ⟨u2, rfl⟩
        have hB1 := ext_below wB u2
        have hwx := HB2.out.1.below hB1
        have k0 := hwx.os.frozenAt (v * 10 + 4)
        have k1 := hwx.os.frozenAt (v * 10 + 5)
        have k2 := hwx.os.frozenAt (v * 10 + 6)
        have k3 := hwx.os.frozenAt (v * 10 + 7)
        have hwB := hwx.fresh HXB.out (or4 (r0, r1, r2, r3) (z0, z1, z2, z3)) (ok4_or hxok.2 hzok)
        rw [List.set_set] at hwB
        have hsB := same4 (ext wB u2) gs (v * 10 + 4) (v * 10 + 5) (v * 10 + 6) (v * 10 + 7) (.int .u64 ((r0 ||| z0 : Nat) : Int)) (.int .u64 ((r1 ||| z1 : Nat) : Int)) (.int .u64 ((r2 ||| z2 : Nat) : Int)) (.int .u64 ((r3 ||| z3 : Nat) : Int))
        have hbB := below4 (Below.refl base (ext wB u2)) (g := gs) hbs.2 (v * 10 + 4) (v * 10 + 5) (v * 10 + 6) (v * 10 + 7) (.int .u64 ((r0 ||| z0 : Nat) : Int)) (.int .u64 ((r1 ||| z1 : Nat) : Int)) (.int .u64 ((r2 ||| z2 : Nat) : Int)) (.int .u64 ((r3 ||| z3 : Nat) : Int))
        have hbas2 : base ≤ wB.heap.size := by have := HB2.out.2.1.1; omega
        have HFn : Hid (_ ∧ _ ∧ _) := ⟨hwB, ((HB2.out.2.1.trans (Same.below hB1)).trans hsB).mono (T := fun k => k = K ∨ k = gs ∨ wv.ownBlock = some k) (fun k _ e => by rcases e with (e | e) | e; exact e; exact e.elim; exact .inr (.inl e)), (HB2.out.2.2.1.trans (hB1.mono hbas2)).trans hbB⟩
        clear hB1 hwx hwB hsB hbB
        simp only [List.getLast]
        refine ⟨by intros; trivial, ?_⟩
        go_simp
        clear k0 k1 k2 k3 x0 x1 x2 x3 y0 y1 y2 y3
        go_wp2
        exact bodyPost_end (results_none rfl _ _ _) rfl ⟨rfl, HFn.out.2.1, HFn.out.2.2, (.slice (some ⟨g5, 0, none⟩) (wait.length + 1) cap5), HG.out, by rw [HQ.out.1, HQ.out.2]; exact HFn.out.1⟩
      · rw [decide_eq_false hrr]
        have HQ : Hid (l2 = l.set v (or4 (s0, s1, s2, s3) (z0, z1, z2, z3), or4 (r0, r1, r2, r3) (z0, z1, z2, z3), ev, ab_) ∧ t2 = wait) := (⟨by rw [← HL2.out, if_neg hzz], by rw [← HT2.out, if_neg hzz, if_neg hrr]⟩ : _ ∧ _)
        clear hrr hzz
        clear hW4
        have HG : Hid (∀ g, wv.ownBlock = some g → wv.ownBlock = some g ∨ w.heap.size ≤ g) := (fun g e => .inl e : ∀ g, wv.ownBlock = some g → wv.ownBlock = some g ∨ w.heap.size ≤ g)
        have hwA := HA4.out.1
        obtain ⟨f0, f1, f2, f3, f4, f5, f6, f7, _⟩ := flat10_at l v _ HX.out
        have e0 := (hwA.os.cellAt (v * 10) (by omega)).trans f0
        have e1 := (hwA.os.cellAt (v * 10 + 1) (by omega)).trans f1
        have e2 := (hwA.os.cellAt (v * 10 + 2) (by omega)).trans f2
        have e3 := (hwA.os.cellAt (v * 10 + 3) (by omega)).trans f3
        simp only at e0 e1 e2 e3
        obtain ⟨⟨t0, t1, t2', t3⟩, _⟩ := row4 HA4.out.2.2.2
        have x0 := fun u => ext_cell e0 u
        have x1 := fun u => ext_cell e1 u
        have x2 := fun u => ext_cell e2 u
        have x3 := fun u => ext_cell e3 u
        have y0 := fun u => ext_cell t0 u
        have y1 := fun u => ext_cell t1 u
        have y2 := fun u => ext_cell t2' u
        have y3 := fun u => ext_cell t3 u
        clear hwA e0 e1 e2 e3 t0 t1 t2' t3 f0 f1 f2 f3 f4 f5 f6 f7
        go_upto_region 6 with fail
        refine region_plain_lastT (n := 9) rfl (by kernel_rfl) (by kernel_rfl) (by kernel_rfl) ?_
        simp only [List.dropLast]
        repeat (gi_big_quiet_step (fail))
        refine wpQuietIn_step (by intros; intro; intros; trivial) (fun K hK => ?_)
        rw [if_pos (show Region.wanted _ _ = true from rfl)]
        gi_big_quiet_op
        apply Exists.intro
        refine ⟨fun u => ?_, ?_⟩
        · first
            | (refine ⟨fun h => by cases h, (callsIn_wide.2 (HOr1.out _)).mono ?_⟩; rintro r w1 ⟨rfl, hB⟩; exact ⟨rfl, w1, ext_of (chain (ext_below _ _) hB)⟩)
            | (refine ⟨trivial, (callsIn_wide.2 (HOr1.out _)).mono ?_⟩; rintro r w1 ⟨rfl, hB⟩; exact ⟨rfl, w1, ext_of (chain (ext_below _ _) hB)⟩)
            | (refine (callsIn_wide.2 (HOr1.out _)).mono ?_; rintro r w1 ⟨rfl, hB⟩; exact ⟨rfl, w1, ext_of (chain (ext_below _ _) hB)⟩)
        refine hK _ ?_
        clear hK K
        repeat (gi_big_quiet_step (fail))
        refine wpQuietIn_nil ?_
        rintro wx ⟨u, rfl⟩
        have hB1 := ext_below w4 u
        have hwx := HA4.out.1.below hB1
        have k0 := hwx.os.frozenAt (v * 10)
        have k1 := hwx.os.frozenAt (v * 10 + 1)
        have k2 := hwx.os.frozenAt (v * 10 + 2)
        have k3 := hwx.os.frozenAt (v * 10 + 3)
        have hwB := hwx.seen HX.out (or4 (s0, s1, s2, s3) (z0, z1, z2, z3)) (ok4_or hxok.1 hzok)
        have hsB := same4 (ext w4 u) gs (v * 10) (v * 10 + 1) (v * 10 + 2) (v * 10 + 3) (.int .u64 ((s0 ||| z0 : Nat) : Int)) (.int .u64 ((s1 ||| z1 : Nat) : Int)) (.int .u64 ((s2 ||| z2 : Nat) : Int)) (.int .u64 ((s3 ||| z3 : Nat) : Int))
        have hbB := below4 (Below.refl base (ext w4 u)) (g := gs) hbs.2 (v * 10) (v * 10 + 1) (v * 10 + 2) (v * 10 + 3) (.int .u64 ((s0 ||| z0 : Nat) : Int)) (.int .u64 ((s1 ||| z1 : Nat) : Int)) (.int .u64 ((s2 ||| z2 : Nat) : Int)) (.int .u64 ((s3 ||| z3 : Nat) : Int))
        have hbas : base ≤ w4.heap.size := by have := HA4.out.2.1.1; omega
        have HB : Hid (_ ∧ _ ∧ _ ∧ _) := ⟨hwB, ((HA4.out.2.1.trans (Same.below hB1)).trans hsB).mono (T := fun k => k = K ∨ k = gs ∨ wv.ownBlock = some k) (fun k _ e => by rcases e with (e | e) | e; exact e; exact e.elim; exact .inr (.inl e)), (HA4.out.2.2.1.trans (hB1.mono hbas)).trans hbB, hsB.row (heap_keep hB1 HA4.out.2.2.2) (by omega)⟩
        clear hB1 hwx hwB hsB hbB
        simp only [List.getLast]
        refine ⟨by intros; trivial, ?_⟩
        go_simp
        clear k0 k1 k2 k3 x0 x1 x2 x3 y0 y1 y2 y3
        obtain ⟨wB, hwBe⟩ : ∃ wB, wB = (((((ext w4 u).setCell ⟨gs, v * 10, none⟩ (.int .u64 ((s0 ||| z0 : Nat) : Int))).setCell ⟨gs, v * 10 + 1, none⟩ (.int .u64 ((s1 ||| z1 : Nat) : Int))).setCell ⟨gs, v * 10 + 2, none⟩ (.int .u64 ((s2 ||| z2 : Nat) : Int))).setCell ⟨gs, v * 10 + 3, none⟩ (.int .u64 ((s3 ||| z3 : Nat) : Int))) := ⟨_, rfl⟩
        have HB2 : Hid (WkAt outs wB base K Gp X n gs wv (l.set v (or4 (s0, s1, s2, s3) (z0, z1, z2, z3), (r0, r1, r2, r3), ev, ab_)) wait ∧ Same w wB (fun k => k = K ∨ k = gs ∨ wv.ownBlock = some k) ∧ Below base w wB ∧ wB.heap[b7]? = some (.cells #[.int .u64 (z0 : Int), .int .u64 (z1 : Int), .int .u64 (z2 : Int), .int .u64 (z3 : Int)] 114 (0, 0))) := (by rw [hwBe]; exact HB.out : _ ∧ _ ∧ _ ∧ _)
        rw [← hwBe]
        clear hwBe HB
        have hxB : (l.set v (or4 (s0, s1, s2, s3) (z0, z1, z2, z3), (r0, r1, r2, r3), ev, ab_))[v]? = some (or4 (s0, s1, s2, s3) (z0, z1, z2, z3), (r0, r1, r2, r3), ev, ab_) := List.getElem?_set_self (List.getElem?_eq_some_iff.1 HX.out).1
        have HXB : Hid _ := hxB
        have hwA := HB2.out.1
        obtain ⟨_, _, _, _, f4, f5, f6, f7, _⟩ := flat10_at _ v _ hxB
        have e0 := (hwA.os.cellAt (v * 10 + 4) (by omega)).trans f4
        have e1 := (hwA.os.cellAt (v * 10 + 5) (by omega)).trans f5
        have e2 := (hwA.os.cellAt (v * 10 + 6) (by omega)).trans f6
        have e3 := (hwA.os.cellAt (v * 10 + 7) (by omega)).trans f7
        simp only at e0 e1 e2 e3
        obtain ⟨⟨t0, t1, t2', t3⟩, _⟩ := row4 HB2.out.2.2.2
        have x0 := fun u => ext_cell e0 u
        have x1 := fun u => ext_cell e1 u
        have x2 := fun u => ext_cell e2 u
        have x3 := fun u => ext_cell e3 u
        have y0 := fun u => ext_cell t0 u
        have y1 := fun u => ext_cell t1 u
        have y2 := fun u => ext_cell t2' u
        have y3 := fun u => ext_cell t3 u
        clear hwA e0 e1 e2 e3 t0 t1 t2' t3 f4 f5 f6 f7 hxB
        go_upto_region 7 with fail
        refine region_plain_lastT (n := 9) rfl (by kernel_rfl) (by kernel_rfl) (by kernel_rfl) ?_
        simp only [List.dropLast]
        repeat (gi_big_quiet_step (fail))
        refine wpQuietIn_step (by intros; intro; intros; trivial) (fun K hK => ?_)
        rw [if_pos (show Region.wanted _ _ = true from rfl)]
        gi_big_quiet_op
        apply Exists.intro
        refine ⟨fun u => ?_, ?_⟩
        · first
            | (refine ⟨fun h => by cases h, (callsIn_wide.2 (HOr2.out _)).mono ?_⟩; rintro r w1 ⟨rfl, hB⟩; exact ⟨rfl, w1, ext_of (chain (ext_below _ _) hB)⟩)
            | (refine ⟨trivial, (callsIn_wide.2 (HOr2.out _)).mono ?_⟩; rintro r w1 ⟨rfl, hB⟩; exact ⟨rfl, w1, ext_of (chain (ext_below _ _) hB)⟩)
            | (refine (callsIn_wide.2 (HOr2.out _)).mono ?_; rintro r w1 ⟨rfl, hB⟩; exact ⟨rfl, w1, ext_of (chain (ext_below _ _) hB)⟩)
        refine hK _ ?_
        clear hK K
        repeat (gi_big_quiet_step (fail))
        refine wpQuietIn_nil ?_
        rintro wx ⟨u2, rfl⟩
        have hB1 := ext_below wB u2
        have hwx := HB2.out.1.below hB1
        have k0 := hwx.os.frozenAt (v * 10 + 4)
        have k1 := hwx.os.frozenAt (v * 10 + 5)
        have k2 := hwx.os.frozenAt (v * 10 + 6)
        have k3 := hwx.os.frozenAt (v * 10 + 7)
        have hwB := hwx.fresh HXB.out (or4 (r0, r1, r2, r3) (z0, z1, z2, z3)) (ok4_or hxok.2 hzok)
        rw [List.set_set] at hwB
        have hsB := same4 (ext wB u2) gs (v * 10 + 4) (v * 10 + 5) (v * 10 + 6) (v * 10 + 7) (.int .u64 ((r0 ||| z0 : Nat) : Int)) (.int .u64 ((r1 ||| z1 : Nat) : Int)) (.int .u64 ((r2 ||| z2 : Nat) : Int)) (.int .u64 ((r3 ||| z3 : Nat) : Int))
        have hbB := below4 (Below.refl base (ext wB u2)) (g := gs) hbs.2 (v * 10 + 4) (v * 10 + 5) (v * 10 + 6) (v * 10 + 7) (.int .u64 ((r0 ||| z0 : Nat) : Int)) (.int .u64 ((r1 ||| z1 : Nat) : Int)) (.int .u64 ((r2 ||| z2 : Nat) : Int)) (.int .u64 ((r3 ||| z3 : Nat) : Int))
        have hbas2 : base ≤ wB.heap.size := by have := HB2.out.2.1.1; omega
        have HFn : Hid (_ ∧ _ ∧ _) := ⟨hwB, ((HB2.out.2.1.trans (Same.below hB1)).trans hsB).mono (T := fun k => k = K ∨ k = gs ∨ wv.ownBlock = some k) (fun k _ e => by rcases e with (e | e) | e; exact e; exact e.elim; exact .inr (.inl e)), (HB2.out.2.2.1.trans (hB1.mono hbas2)).trans hbB⟩
        clear hB1 hwx hwB hsB hbB
        simp only [List.getLast]
        refine ⟨by intros; trivial, ?_⟩
        go_simp
        clear k0 k1 k2 k3 x0 x1 x2 x3 y0 y1 y2 y3
        go_wp2
        exact bodyPost_end (results_none rfl _ _ _) rfl ⟨rfl, HFn.out.2.1, HFn.out.2.2, wv, HG.out, by rw [HQ.out.1, HQ.out.2]; exact HFn.out.1⟩
end Go.Proofs.YtphjbbbnbmafnabGreatDoor.G
