/-
  One node that waits is gone on from: what becomes of all ways, in sets: without the program.
-/
import Derived.Test.YtphjbbbnbmafnabGreatDoorXWk
namespace Go.Proofs.YtphjbbbnbmafnabGreatDoor.G
open Go.Proofs.YtphjbbbnbmafnabGreatDoor.RxM

/-- what is seen, and what is fresh, of each node -/
abbrev sa (l : List Wst) : List S4 := l.map fun (x : Wst) => x.1
abbrev sb (l : List Wst) : List S4 := l.map fun (x : Wst) => x.2.1
theorem sa_at {l : List Wst} {v : Nat} {x : Wst} (h : l[v]? = some x) : (sa l).getD v z4 = x.1 := by
  rw [List.getD_eq_getElem?_getD, List.getElem?_map, h]; rfl
theorem sb_at {l : List Wst} {v : Nat} {x : Wst} (h : l[v]? = some x) : (sb l).getD v z4 = x.2.1 := by
  rw [List.getD_eq_getElem?_getD, List.getElem?_map, h]; rfl
theorem sa_set (l : List Wst) (v : Nat) (x : Wst) : sa (l.set v x) = (sa l).set v x.1 := by unfold sa; rw [List.map_set]
theorem sb_set (l : List Wst) (v : Nat) (x : Wst) : sb (l.set v x) = (sb l).set v x.2.1 := by unfold sb; rw [List.map_set]
/-- edges as a relation -/
def Eof (outs : Nat → List E3) (m c v : Nat) : Prop := ((m : Int), (c : Int), (v : Int)) ∈ outs m
/-- what is asked of the edges from nodes -/
def OutsOk (outs : Nat → List E3) (n s : Nat) : Prop := ∀ u, u < n → (outs u).length ≤ 1000000 ∧ ∀ e ∈ outs u, ∃ c v : Nat, e = ((u : Int), (c : Int), (v : Int)) ∧ c < s ∧ v < n
variable {outs : Nat → List E3} {t : Rx} {n s u0 : Nat} {ss ts : List S4} {en : S4}
/-- what is still to be done behind j of the edges from u; fr: the places from which ways go on -/
def Lft (outs : Nat → List E3) (u : Nat) (fr : S4) (j : Nat) (m p c v : Nat) : Prop := m = u ∧ mem4 fr p = true ∧ ((u : Int), (c : Int), (v : Int)) ∈ (outs u).drop j
/-- a way comes along an edge -/
theorem wk_edge (hex : Ex t s ss ts en) {l : List Wst} {wt : List Nat} {u j c v : Nat} {fr : S4} {x : Wst} (hj : (outs u)[j]? = some ((u : Int), (c : Int), (v : Int))) (hv : v < n) (hc : c < s)
    (hfr : ∀ p, mem4 fr p = true → Rc (bh0 t) (tk0 t) (Eof outs) u0 p u ∧ p < ss.length) (hx : l[v]? = some x) (hok : ∀ x ∈ l, ok4 x.1 ∧ ok4 x.2.1)
    (h : Wk (bh0 t) (tk0 t) (Eof outs) u0 n ss.length (sa l) (sb l) wt (Lft outs u fr j)) (bhd : S4) (hbk : ok4 bhd) (hbd : ∀ q, mem4 bhd q = true ↔ ∃ p, mem4 fr p = true ∧ bh0 t p q = true) :
    Wk (bh0 t) (tk0 t) (Eof outs) u0 n ss.length (sa (if wo4 (and4 bhd (ts.getD c z4)) x.1 = z4 then l else l.set v (or4 x.1 (wo4 (and4 bhd (ts.getD c z4)) x.1), or4 x.2.1 (wo4 (and4 bhd (ts.getD c z4)) x.1), x.2.2)))
      (sb (if wo4 (and4 bhd (ts.getD c z4)) x.1 = z4 then l else l.set v (or4 x.1 (wo4 (and4 bhd (ts.getD c z4)) x.1), or4 x.2.1 (wo4 (and4 bhd (ts.getD c z4)) x.1), x.2.2)))
      (if wo4 (and4 bhd (ts.getD c z4)) x.1 = z4 then wt else if x.2.1 = z4 then wt ++ [v] else wt) (Lft outs u fr (j + 1)) ∧
    todo (sa (if wo4 (and4 bhd (ts.getD c z4)) x.1 = z4 then l else l.set v (or4 x.1 (wo4 (and4 bhd (ts.getD c z4)) x.1), or4 x.2.1 (wo4 (and4 bhd (ts.getD c z4)) x.1), x.2.2))) (if wo4 (and4 bhd (ts.getD c z4)) x.1 = z4 then wt else if x.2.1 = z4 then wt ++ [v] else wt) n ss.length ≤ todo (sa l) wt n ss.length := by
  have hxo := hok x (List.mem_of_getElem? hx)
  have hat : ∀ q, mem4 (and4 bhd (ts.getD c z4)) q = true ↔ mem4 bhd q = true ∧ tk0 t c q = true := fun q => by rw [mem4_and, Bool.and_eq_true, hex.tk c q hc]
  have hed : Eof outs u c v := List.mem_of_getElem? hj
  have key := wk_come (Y := Lft outs u fr (j + 1)) h v hv (and4 bhd (ts.getD c z4)) (wo4 (and4 bhd (ts.getD c z4)) x.1) (ok4_wo (ok4_and hbk)) (fun p => by
      rw [mem4_wo _ hxo.1]
      show _ = (_ && !mem4 ((sa l).getD v z4) p)
      rw [sa_at hx])
    (fun q hq => by
      obtain ⟨h1, h2⟩ := (hat q).1 hq
      obtain ⟨p, h3, h4⟩ := (hbd q).1 h1
      exact .more (hfr p h3).1 h4 hed h2)
    (fun q hq => by
      have h2 := ((hat q).1 hq).2
      unfold tk0 at h2
      simp only [Bool.and_eq_true, decide_eq_true_eq] at h2
      rw [hex.len]; exact h2.1.2)
    (fun m p q c1 v1 h1 h2 h3 h4 => by
      obtain ⟨rfl, h5, h6⟩ := h4
      have hjl := (List.getElem?_eq_some_iff.1 hj).1
      rw [List.drop_eq_getElem_cons hjl] at h6
      rcases List.mem_cons.1 h6 with e | e
      · have e2 := (List.getElem?_eq_some_iff.1 hj).2
        rw [e2] at e
        injection e with _ e
        injection e with e3 e4
        have e5 : c1 = c := by omega
        have e6 : v1 = v := by omega
        subst e5 e6
        exact .inl ⟨rfl, (hat q).2 ⟨(hbd q).2 ⟨p, h5, h1⟩, h2⟩⟩
      · exact .inr ⟨rfl, h5, e⟩)
  unfold come at key
  by_cases hz : wo4 (and4 bhd (ts.getD c z4)) x.1 = z4
  · rw [if_pos hz] at key
    rw [if_pos hz, if_pos hz]
    exact key
  · rw [if_neg hz, sa_at hx, sb_at hx] at key
    rw [if_neg hz, if_neg hz, sa_set, sb_set]
    exact key
theorem wk_done {l : List Wst} {wt : List Nat} {u : Nat} {fr : S4} (h : Wk (bh0 t) (tk0 t) (Eof outs) u0 n ss.length (sa l) (sb l) wt (Lft outs u fr (outs u).length)) : Wk (bh0 t) (tk0 t) (Eof outs) u0 n ss.length (sa l) (sb l) wt (fun _ _ _ _ => False) :=
  ⟨inv_none h.inv fun m p q c v _ _ _ _ _ h6 => absurd h6.2.2 (by rw [List.drop_length]; simp), h.la, h.lb, h.oka, h.okb, h.bd⟩
/-- nothing is behind: nothing is to be done -/
theorem wk_none {l : List Wst} {wt : List Nat} {u : Nat} {fr : S4} (h : Wk (bh0 t) (tk0 t) (Eof outs) u0 n ss.length (sa l) (sb l) wt (Lft outs u fr 0)) (hb : ∀ p q, mem4 fr p = true → bh0 t p q = false) : Wk (bh0 t) (tk0 t) (Eof outs) u0 n ss.length (sa l) (sb l) wt (fun _ _ _ _ => False) :=
  ⟨inv_none h.inv fun m p q c v _ _ h3 _ _ h6 => absurd h3 (by rw [hb p q h6.2.1]; simp), h.la, h.lb, h.oka, h.okb, h.bd⟩
/-- a node is taken -/
theorem wk_take {l : List Wst} {wt : List Nat} {u : Nat} {x : Wst} (hx : l[u]? = some x) (h : Wk (bh0 t) (tk0 t) (Eof outs) u0 n ss.length (sa l) (sb l) (wt ++ [u]) (fun _ _ _ _ => False)) :
    Wk (bh0 t) (tk0 t) (Eof outs) u0 n ss.length (sa (l.set u (x.1, z4, x.2.2))) (sb (l.set u (x.1, z4, x.2.2))) wt (Lft outs u x.2.1 0) ∧ todo (sa (l.set u (x.1, z4, x.2.2))) wt n ss.length < todo (sa l) (wt ++ [u]) n ss.length ∧ (∀ p, mem4 x.2.1 p = true → Rc (bh0 t) (tk0 t) (Eof outs) u0 p u ∧ p < ss.length) := by
  obtain ⟨h1, h2, _, h4⟩ := wk_pop h
  have ea : sa (l.set u (x.1, z4, x.2.2)) = sa l := by
    rw [sa_set]
    apply List.ext_getElem?
    intro k
    by_cases e : u = k
    · subst e
      rw [List.getElem?_set_self (by simpa using (List.getElem?_eq_some_iff.1 hx).1), List.getElem?_map, hx]; rfl
    · rw [List.getElem?_set_ne e]
  have eb : sb (l.set u (x.1, z4, x.2.2)) = (sb l).set u z4 := sb_set _ _ _
  have ef : ∀ p, fn (sb l) u p = mem4 x.2.1 p := fun p => by unfold fn; rw [sb_at hx]
  rw [ea, eb]
  refine ⟨⟨inv_none h1.inv fun m p q c v _ _ _ _ _ h6 => .inr ⟨h6.1, by rw [← ef]; exact h6.2.1, h6.2.2⟩, h1.la, h1.lb, h1.oka, h1.okb, h1.bd⟩, h2, fun p hp => h4 p (by rw [ef]; exact hp)⟩
theorem unseen_top (f : Nat → Nat → Bool) (n P : Nat) : unseen f n P ≤ n * P := by
  unfold unseen
  have : ∀ l : List Nat, (l.map fun v => ((List.range P).filter fun p => !f v p).length).sum ≤ l.length * P := by
    intro l
    induction l with
    | nil => simp
    | cons a l ih =>
      rw [List.map_cons, List.sum_cons, List.length_cons, Nat.add_mul, Nat.one_mul]
      have := List.length_filter_le (fun p => !f a p) (List.range P)
      rw [List.length_range] at this
      omega
  simpa using this (List.range n)
end Go.Proofs.YtphjbbbnbmafnabGreatDoor.G
