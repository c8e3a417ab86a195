/-
  Reach, as the laws of expressions ask it: where ways lead, within the graph; lists put one behind the other.
-/
import Derived.Test.YtphjbbbnbmafnabGreatDoorWKp
import Derived.Test.YtphjbbbnbmafnabGreatDoorPHs
import Derived.Test.YtphjbbbnbmafnabGreatDoorPOpen
namespace Go.Proofs.YtphjbbbnbmafnabGreatDoor.G
open Go.RowKit Go.Shelf

/-- the edges from a node, as Out gives them -/
abbrev outsOf (L : List E3) (u : Nat) : List E3 := L.filter (fromB (u : Int) ((u : Int) + 1))
theorem eof_iff (L : List E3) (m c v : Nat) : Eof (outsOf L) m c v ↔ ((m : Int), (c : Int), (v : Int)) ∈ L := by
  unfold Eof outsOf
  rw [List.mem_filter]
  refine ⟨fun h => h.1, fun h => ⟨h, ?_⟩⟩
  unfold fromB
  simp only [decide_eq_true_eq]
  omega
theorem okG_edge {n s : Nat} {L : List E3} (h : okG n s L) : ∀ e ∈ L, ∃ a c b : Nat, e = ((a : Int), (c : Int), (b : Int)) ∧ a < n ∧ c < s ∧ b < n := fun e he => by
  obtain ⟨h1, h2, h3, h4, h5, h6⟩ := h.2 e he
  obtain ⟨a, c, b⟩ := e
  simp only at h1 h2 h3 h4 h5 h6
  refine ⟨a.toNat, c.toNat, b.toNat, ?_, by omega, by omega, by omega⟩
  rw [Int.toNat_of_nonneg h1, Int.toNat_of_nonneg h3, Int.toNat_of_nonneg h5]
theorem outs_ok {n s : Nat} {L : List E3} (h : okG n s L) (hL : L.length ≤ 20000) : OutsOk (outsOf L) n s := fun u hu => by
  refine ⟨Nat.le_trans (List.length_filter_le _ _) (Nat.le_trans hL (by omega)), fun e he => ?_⟩
  obtain ⟨h1, h2⟩ := List.mem_filter.1 he
  obtain ⟨a, c, b, rfl, ha, hc, hb⟩ := okG_edge h e h1
  unfold fromB at h2
  simp only [decide_eq_true_eq] at h2
  obtain rfl : a = u := by omega
  exact ⟨c, b, rfl, hc, hb⟩
theorem out_c {w : World} {b n s : Nat} {L : List E3} (h : GraphAt w b n s L) : OutC (outsOf L) w b n := fun W hW u hu => by
  have hbd := h.bd
  refine (gout_any (h.below hW) (u : Int) (by omega) (by omega)).mono ?_
  rintro r w' (⟨h1, _⟩ | ⟨_, z, h1, h2⟩)
  · exact absurd ⟨by omega, by omega⟩ h1
  · exact ⟨z, h1, h2⟩
theorem rel_lt {E : Nat → Nat → Nat → Prop} {n : Nat} (hE : ∀ a c b, E a c b → b < n) : ∀ (t : RxM.Rx) (u v : Nat), u < n → RxM.rel E t u v → v < n
  | .void, _, _, _, h => h.elim
  | .eps, u, v, hu, h => by have h : u = v := h; omega
  | .sym _, _, _, _, ⟨c, _, h⟩ => hE _ c _ h
  | .star t, u, v, hu, h => by
    have h2 : RxM.Many (RxM.rel E t) u v := h
    clear h
    induction h2 with
    | nil => exact hu
    | snoc _ hr ih => exact rel_lt hE t _ _ ih hr
  | .cat a b, u, v, hu, ⟨m, h1, h2⟩ => rel_lt hE b m v (rel_lt hE a u m hu h1) h2
  | .alt a b, u, v, hu, h => h.elim (rel_lt hE a u v hu) (rel_lt hE b u v hu)
/-- Reach of a graph of 50 nodes and 4 labels, whatever memory is new -/
def ReachC (L : List E3) (w0 : World) (b : Nat) : Prop := ∀ W, Below w0.heap.size w0 W → ∀ (u : Nat) (q : ByteArray) (t : RxM.Rx), u < 50 → q.size ≤ 200 → RxM.read 4 (codes q) = some t →
  Calls Tryz.prog 10 #[.pointer (some ⟨b, 0, none⟩), .int .i64 (u : Int), .string q] W fun e w' => ∃ v res, e = .returned (.tuple #[v, .int .i64 0]) ∧ w'.ownsRow W.heap.size 3 1 v res.length (ints res) ∧ res.Pairwise (· < ·) ∧ (∀ x, x ∈ res ↔ RxM.rel (Eof (outsOf L)) t u x) ∧ res.length ≤ 50 ∧ Below W.heap.size W w'
theorem eof_lt {L : List E3} (h : okG ((50 : Nat) : Int) ((4 : Nat) : Int) L) (a c b : Nat) (he : Eof (outsOf L) a c b) : b < 50 := by
  obtain ⟨a2, c2, b2, e, _, _, hb⟩ := okG_edge (n := 50) (s := 4) h _ ((eof_iff L a c b).1 he)
  injection e with _ e
  injection e with _ e
  omega
open Classical in
theorem rise_len {res : List Nat} {n : Nat} (hp : res.Pairwise (· < ·)) (h : ∀ x ∈ res, x < n) : res.length ≤ n := by
  have e := RxM.rise_one res ((List.range n).filter fun v => decide (v ∈ res)) hp ((List.pairwise_lt_range).filter _) (fun x => by
    rw [List.mem_filter, List.mem_range, decide_eq_true_eq]
    exact ⟨fun hx => ⟨h x hx, hx⟩, fun hx => hx.2⟩)
  rw [e]
  refine Nat.le_trans (List.length_filter_le _ _) ?_
  rw [List.length_range]
  exact Nat.le_refl _
theorem reach_c {w : World} {b : Nat} {L : List E3} (hg : GraphAt w b 50 4 L) (hT : TzAt w) : ReachC L w b := fun W hW u q t hu hq hr => by
  have hg2 := hg.below hW
  refine (greach_any b 50 4 (u : Int) q W (hT.below hW) (out_c hg2) (outs_ok hg.ok hg.bd.2.2.2.2) (by omega) (by omega) hg2.sz0 hg2.sz1).mono ?_
  rintro e w' ⟨rv, c, res, rfl, hB, hown, hcase⟩
  rcases hcase with ⟨h1, _⟩ | ⟨_, h1 | h1, _⟩ | ⟨_, _, t2, ht, rfl, hp, hm⟩
  · exact absurd ⟨by omega, by omega⟩ h1
  · omega
  · rw [hr] at h1; cases h1
  · rw [hr] at ht
    injection ht with ht
    subst ht
    have hm2 : ∀ x, x ∈ res ↔ RxM.rel (Eof (outsOf L)) t u x := fun x => by
      rw [hm x, Int.toNat_natCast]
      exact ⟨fun h => h.2, fun h => ⟨rel_lt (eof_lt hg.ok) t u x hu h, h⟩⟩
    exact ⟨rv, res, rfl, hown, hp, hm2, rise_len hp (fun x hx => ((hm x).1 hx).1), hB⟩
theorem app_nil (w : World) : (Builtin.append_ #[22, 22] 22 #[.slice none 0 0, .slice none 0 0]).run Tryz.prog w = .ok (.slice none 0 0) w := by
  simp [go_sem]
theorem app_some (w : World) (g n cap : Nat) (h : n ≤ cap) : (Builtin.append_ #[22, 22] 22 #[.slice (some ⟨g, 0, none⟩) n cap, .slice none 0 0]).run Tryz.prog w = .ok (.slice (some ⟨g, 0, none⟩) n cap) w := by
  simp [go_sem, h]
theorem Tryz.infoIi : (Tryz.prog.info? 3).map (fun i => (i.zero, i.size, i.bytes)) = some (some (.int .i64 0), 1, 8) := by kernel_rfl
theorem own_nums {w : World} {b : Nat} {v : Value} {l : List Nat} (h : w.ownsRow b 3 1 v l.length (ints l)) : NumsAt .i64 w v l := nums_own (by unfold vals; exact h)
theorem ints_app (l m : List Nat) : ints (l ++ m) = ints l ++ ints m := by unfold ints; simp
theorem run_append_nums (w : World) (b b2 : Nat) (v vf : Value) (l lf : List Nat) (h : w.ownsRow b 3 1 v l.length (ints l)) (hf : w.ownsRow b2 3 1 vf lf.length (ints lf)) (hlen : l.length + lf.length ≤ 1000000) (hb : b ≤ w.heap.size) :
    ∃ v' w', (Builtin.append_ #[22, 22] 22 #[v, vf]).run Tryz.prog w = .ok v' w' ∧ w'.ownsRow b 3 1 v' (l ++ lf).length (ints (l ++ lf)) ∧ Below b w w' := by
  obtain ⟨i1, hi1, hz0, hz1, hz2⟩ := info_parts Tryz.infoIi
  rcases hf.2 with ⟨rfl, h0⟩ | ⟨g2, cap2, cur2, rfl, _⟩
  · obtain rfl : lf = [] := List.length_eq_zero_iff.1 h0
    rw [List.append_nil]
    rcases h.2 with ⟨rfl, _⟩ | ⟨g, cap, cur, rfl, _, _, hnc, _⟩
    · exact ⟨_, w, app_nil w, h, Below.refl _ _⟩
    · exact ⟨_, w, app_some w g _ cap hnc, h, Below.refl _ _⟩
  · obtain ⟨v', w', hr, h2, h3, _⟩ := run_append_own_wide (P := Tryz.prog) w b 22 22 3 i1 (.int .i64 0) 1 8 Tryz.underlying22 hi1 hz0 hz1 hz2 rfl (by decide) v l.length (ints l) h ⟨g2, 0, none⟩ lf.length cap2 (ints lf) (by simp) (fun j u hj => by
      have hjl := (List.getElem?_eq_some_iff.1 hj).1
      have := hf.cellAt j (by simp at hjl ⊢; omega)
      rw [hj] at this
      cases j with
      | zero => simpa [Addr.add] using this
      | succ j => simpa [Addr.add] using this) (fun u hu => by
      simp only [ints, List.mem_map] at hu
      obtain ⟨x, _, rfl⟩ := hu
      rfl) (by unfold maxLen; omega) (by omega) hb
    exact ⟨v', w', hr, by rw [List.length_append, ints_app]; exact h2, (Below.refl _ w).grown h3 hb (fun k e => (h.lt k e).1)⟩
theorem wpList_append_nums {ops : Array Oper} {rest : List Oper} {o : Oper} {a : Act} {Q : Exit → Act → World → Prop} (w : World) (hgd : o.guard = none) (s x : Operand)
    (ho : o.op = .call { callee := .builtin .append, args := #[s, x], argTypes := #[22, 22] }) (hty : o.type = 22) (b b2 : Nat) (v vf : Value) (l lf : List Nat) (hs : a.eval s = v) (hx : a.eval x = vf) (h : w.ownsRow b 3 1 v l.length (ints l)) (hf : w.ownsRow b2 3 1 vf lf.length (ints lf)) (hlen : l.length + lf.length ≤ 1000000) (hb : b ≤ w.heap.size)
    (hK : ∀ v' w', w'.ownsRow b 3 1 v' (l ++ lf).length (ints (l ++ lf)) → Below b w w' → wpList Tryz.prog ops Q rest (a.put o.dst v') w') : wpList Tryz.prog ops Q (o :: rest) a w :=
  wpList_plain hgd fun _ hK2 => by
    obtain ⟨v', w', hr, h1, h2⟩ := run_append_nums w b b2 v vf l lf h hf hlen hb
    unfold Oper.wp execOp
    simp only [ho, resolve, invoke, builtin, Sem.run_bind, Sem.run_pure, Result.andThen_ok, List.map_toArray, List.map_cons, List.map_nil, hs, hx, hty, hr]
    exact hK2 _ _ (hK v' w' h1 h2)
end Go.Proofs.YtphjbbbnbmafnabGreatDoor.G
