/-
  A region that draws its order and ends in a store, where some of its operations are guarded: one walk.
-/
import Derived.Test.YtphjbbbnbmafnabGreatDoorXQl
namespace Go.Proofs.YtphjbbbnbmafnabGreatDoor.G
open Go.RowKit

section
variable {F : Fence} {n : Nat} {P : Program} {md : Region.Mode} {l : Array Oper} {st : Oper} {Q : Exit → Act → World → Prop} {C : World → Prop}
theorem yielded_push (tmps : Array Value) {j : Nat} (hj : j < l.size) : yielded (l.push st) tmps j = yielded l tmps j := by
  unfold yielded
  rw [Array.getElem?_push, if_neg (by omega)]
theorem wanted_push (tmps : Array Value) {o : Oper} (hg : ∀ j b, o.guard = some (j, b) → j < l.size) : Region.wanted o (yielded (l.push st) tmps) = Region.wanted o (yielded l tmps) := by
  unfold Region.wanted
  cases e : o.guard with
  | none => rfl
  | some p =>
    obtain ⟨j, b⟩ := p
    simp only
    rw [yielded_push tmps (hg j b e)]
theorem op_pushG {i : Nat} {K : Act → World → Prop} {a : Act} {w : World} (hi : i < l.size) (hg : ∀ o ∈ l.toList, ∀ j b, o.guard = some (j, b) → j < l.size) (h : wpOpIn F n P l Q i K a w) : wpOpIn F n P (l.push st) Q i K a w := by
  unfold wpOpIn at h ⊢
  rw [Array.getElem?_push, if_neg (by omega)]
  rw [Array.getElem?_eq_getElem hi] at h ⊢
  simp only at h ⊢
  rw [wanted_push a.tmps (hg _ (by simp))]
  exact h
theorem any_lastG (hg : ∀ o ∈ l.toList, ∀ j b, o.guard = some (j, b) → j < l.size) (hsg : st.guard = none) (hb : ∀ (j : Nat) (o : Oper), l[j]? = some o → ∀ e ∈ o.after, e.on < j) (hse : ∀ j, j < l.size → ∃ e ∈ st.after, Region.binds md e = true ∧ e.on = j) (hsb : ∀ e ∈ st.after, e.on < l.size)
    {Q1 : Act → Prop} (hro : F.round = none) (hQ : ∀ a w, C w → Q1 a → st.wpIn F n P a w (fun a w => Q .normal a w) Q) :
    ∀ (fuel : Nat) (listed : Array Bool) (a : Act) (w : World), C w → listed.size = l.size → listed.toList.count false ≤ fuel → wpAnyQIn F n P md l C Q1 fuel listed a → wpAnyIn F n P md (l.push st) Q (fuel + 1) (listed.push false) a w := by
  have fin : ∀ (fuel : Nat) (listed : Array Bool) (a : Act) (w : World), C w → listed.size = l.size → listed.toList.count false = 0 → Q1 a → wpAnyIn F n P md (l.push st) Q (fuel + 1) (listed.push false) a w := by
    intro fuel listed a w hw hs hc hq
    refine ⟨fun h => ?_, fun i hi => ?_⟩
    · have : l.size ∈ Region.ready md (l.push st) (listed.push false) := (ready_last hsb hs hc).2 rfl
      rw [h] at this; cases this
    · have := (ready_last hsb hs hc).1 hi
      subst this
      unfold wpOpIn
      rw [Array.getElem?_push, if_pos rfl]
      simp only [Region.wanted, hsg, if_true]
      refine Oper.wpIn_mono (fun a' w' hq' => ?_) (hQ a w hw hq)
      have hnone : Region.ready md (l.push st) ((listed.push false).setIfInBounds l.size true) = [] := ready_none fun j => by
        by_cases hj : j = l.size
        · subst hj; rw [← hs]; simp [Array.getD]
        · rw [getD_set_ne true (fun e => hj e.symm)]
          by_cases hj2 : j < listed.size
          · rw [getD_push hj2]; exact listed_all hc j
          · simp [Array.getD, show ¬ j < listed.size + 1 by omega]
      cases fuel with
      | zero => exact ⟨hnone, hq'⟩
      | succ fuel => exact ⟨fun _ => hq', fun i hi => by rw [hnone] at hi; cases hi⟩
  intro fuel
  induction fuel with
  | zero => intro listed a w hw hs hc h; exact fin 0 listed a w hw hs (by omega) h.2
  | succ fuel ih =>
    intro listed a w hw hs hc h
    by_cases hz : listed.toList.count false = 0
    · exact fin _ listed a w hw hs hz (h.1 (ready_none (listed_all hz)))
    · refine ⟨fun h0 => ?_, fun i hi => ?_⟩
      · obtain ⟨j, hj, hm⟩ := listed_some hz
        have hjl := getD_lt hj
        have : j ∈ Region.ready md l listed := mem_ready.2 ⟨hj, l[j], Array.getElem?_eq_getElem (by omega), fun e he _ => hm _ (hb j _ (Array.getElem?_eq_getElem (by omega)) e he)⟩
        rw [← ready_push hse hs hb hz, h0] at this
        cases this
      · have hi' := (ready_push hse hs hb hz).1 hi
        have h1 := (mem_ready.1 hi').1
        have hil := getD_lt h1
        refine op_pushG (by omega) hg (wpOpIn_of_qOpIn hro hw (fun a' w' hw' hk => ?_) (h.2 i hi'))
        have hcl := count_less h1
        have := ih (listed.setIfInBounds i true) a' w' hw' (by simpa using hs) (by omega) hk
        rw [show (listed.push false).setIfInBounds i true = (listed.setIfInBounds i true).push false from ?_]
        · exact this
        · apply Array.ext_getElem?
          intro j
          simp only [Array.getElem?_setIfInBounds, Array.getElem?_push, Array.size_push, Array.size_setIfInBounds]
          split <;> split <;> simp_all <;> omega
/-- what is asked of such a region's text -/
def lastOkG (md : Region.Mode) (L : List Oper) (st : Oper) : Bool :=
  (L.all fun o => (match o.guard with | none => true | some (j, _) => decide (j < L.length))) && st.guard.isNone && (L.zipIdx.all fun p => p.1.after.all fun e => decide (e.on < p.2)) && ((List.range L.length).all fun j => st.after.any fun e => Region.binds md e && (e.on == j)) && (st.after.all fun e => decide (e.on < L.length))
theorem region_lastG {a : Act} {w : World} {L : List Oper} (hro : F.round = none) (hB : Region.lexB .any L.toArray = true) (hok : lastOkG .any L st = true) (hC : C { w with drawn := w.drawn + 1 })
    (h : wpQuietIn F n P L.toArray C (fun a' => ∀ w', C w' → st.wpIn F n P a' w' (fun a w => Q .normal a w) Q) L a) : wpAnyIn F n P .any (L.toArray.push st) Q (L.toArray.push st).size (Array.replicate (L.toArray.push st).size false) a { w with drawn := w.drawn + 1 } := by
  simp only [lastOkG, Bool.and_eq_true, List.all_eq_true, Array.all_eq_true, Array.any_eq_true, Option.isNone_iff_eq_none, decide_eq_true_eq, List.mem_range, beq_iff_eq] at hok
  simp only [Region.lexB, Bool.and_eq_true] at hB
  obtain ⟨⟨⟨⟨h1, h2⟩, h3⟩, h4⟩, h5⟩ := hok
  have hq := wpAnyQIn_lex (F := F) (n := n) (C := C) (md := .any) hB.1 L 0 (Array.replicate L.toArray.size false) a (by simp) (by simpa using hB.2) h
  have := any_lastG (F := F) (n := n) (P := P) (md := .any) (l := L.toArray) (st := st) (Q := Q) (C := C) (fun o ho j b hj => by have := h1 o (by simpa using ho); rw [hj] at this; simpa using this) h2 ?_ ?_ ?_ hro (fun a w hw h => h w hw) L.length (Array.replicate L.toArray.size false) a _ hC (by simp) (by simp) hq
  · simpa [Array.replicate_succ] using this
  · intro j o ho e he
    have hj := h3 (o, j) (by rw [List.mem_zipIdx_iff_getElem?]; simpa using ho)
    obtain ⟨k, hk, rfl⟩ := Array.getElem_of_mem he
    exact hj k hk
  · intro j hj
    obtain ⟨k, hk, h6, h7⟩ := h4 j (by simpa using hj)
    exact ⟨_, Array.getElem_mem hk, h6, h7⟩
  · intro e he
    obtain ⟨k, hk, rfl⟩ := Array.getElem_of_mem he
    simpa using h5 k hk
end
/-- a region that draws its order and ends in a store, outside of a round; some of it may be guarded -/
theorem region_plain_lastG {n id : Nat} {P : Program} {l : List Oper} {st : Oper} {Q : Exit → Act → World → Prop} {a : Act} {w : World} (hst : l.getLast? = some st) (hm : P.follows .mixedOrders = true) (hB : Region.lexB .any l.dropLast.toArray = true) (hok : lastOkG .any l.dropLast st = true)
    (h : wpQuietIn Fence.wide n P l.dropLast.toArray (fun w' => ∃ u, w' = ext w u) (fun a' => ∀ w', (∃ u, w' = ext w u) → st.wpIn Fence.wide n P a' w' (fun a w => Q .normal a w) Q) l.dropLast a) : (Code.region id l.toArray true).wp P Q a w := by
  have hl : l.toArray = l.dropLast.toArray.push st := by
    have : l = l.dropLast ++ [st] := by
      obtain ⟨ys, rfl⟩ := List.getLast?_eq_some_iff.1 hst
      simp
    conv => lhs; rw [this]
    simp
  rw [hl]
  exact wpIn_wide.1 (wpIn_region_any hm (region_lastG (C := fun w' => ∃ u, w' = ext w u) rfl hB hok ⟨w.drew, ext_of ((Below.refl _ _).drew)⟩ h))
end Go.Proofs.YtphjbbbnbmafnabGreatDoor.G
