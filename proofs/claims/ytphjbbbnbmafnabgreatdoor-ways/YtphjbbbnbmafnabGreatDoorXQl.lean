/-
  A region that draws its order, reads and calls what makes new memory alone, and whose last operation stands behind all others (a store): one walk.
-/
import Derived.Test.YtphjbbbnbmafnabGreatDoorXRd
namespace Go.Proofs.YtphjbbbnbmafnabGreatDoor.G
open Go.RowKit

section
variable {F : Fence} {n : Nat} {P : Program} {md : Region.Mode} {l : Array Oper} {st : Oper} {Q : Exit → Act → World → Prop} {C : World → Prop}
theorem op_push {i : Nat} {K : Act → World → Prop} {a : Act} {w : World} (hi : i < l.size) (hg : ∀ o ∈ l.toList, o.guard = none) (h : wpOpIn F n P l Q i K a w) : wpOpIn F n P (l.push st) Q i K a w := by
  unfold wpOpIn at h ⊢
  rw [Array.getElem?_push, if_neg (by omega)]
  rw [Array.getElem?_eq_getElem hi] at h ⊢
  have hn : l[i].guard = none := hg _ (by simp)
  simp only [Region.wanted, hn] at h ⊢
  exact h
theorem listed_all {listed : Array Bool} (h : listed.toList.count false = 0) (j : Nat) : listed.getD j true = true := by
  rw [List.count_eq_zero] at h
  rw [Array.getD_eq_getD_getElem?]
  cases e : listed[j]? with
  | none => rfl
  | some b =>
    cases b with
    | true => rfl
    | false => exact absurd (by rw [Array.mem_toList_iff]; exact Array.mem_of_getElem? e) h
theorem listed_some {listed : Array Bool} (h : listed.toList.count false ≠ 0) : ∃ j, listed.getD j true = false ∧ ∀ k, k < j → listed.getD k false = true := by
  have hm : false ∈ listed.toList := by
    rcases Nat.eq_zero_or_pos (listed.toList.count false) with e | e
    · exact absurd e h
    · exact List.count_pos_iff.1 e
  obtain ⟨j, hj, hv⟩ := List.mem_iff_getElem.1 hm
  have hex : ∃ j, listed.getD j true = false := ⟨j, by
    have hj' : j < listed.size := by simpa using hj
    simp only [Array.getElem_toList] at hv
    simp [Array.getD, hj', hv]⟩
  have least : ∀ j, listed.getD j true = false → ∃ m, listed.getD m true = false ∧ ∀ k, k < m → listed.getD k true ≠ false := by
    intro j
    induction j using Nat.strongRecOn with
    | _ j ih =>
      intro hj
      by_cases hk : ∃ k, k < j ∧ listed.getD k true = false
      · obtain ⟨k, h1, h2⟩ := hk; exact ih k h1 h2
      · exact ⟨j, hj, fun k h1 h2 => hk ⟨k, h1, h2⟩⟩
  obtain ⟨j, hj⟩ := hex
  obtain ⟨m, h2, h1⟩ := least j hj
  refine ⟨m, h2, fun k hk => ?_⟩
  have h1 := h1 k hk
  have hlt : m < listed.size := by
    rcases Nat.lt_or_ge m listed.size with e | e
    · exact e
    · simp [Array.getD, Nat.not_lt.2 e] at h2
  have hk2 : k < listed.size := by omega
  simp [Array.getD, hk2] at h1 ⊢
  exact h1
theorem count_less {listed : Array Bool} {i : Nat} (h : listed.getD i true = false) : (listed.setIfInBounds i true).toList.count false + 1 = listed.toList.count false := by
  have hlt : i < listed.size := by
    rcases Nat.lt_or_ge i listed.size with e | e
    · exact e
    · simp [Array.getD, Nat.not_lt.2 e] at h
  have hv : listed.toList[i]'(by simpa using hlt) = false := by simpa [Array.getD, hlt] using h
  have hp : 0 < listed.toList.count false := List.count_pos_iff.2 (by rw [← hv]; exact List.getElem_mem _)
  rw [Array.toList_setIfInBounds, List.count_set (by simpa using hlt), hv]
  show listed.toList.count false - 1 + 0 + 1 = _
  omega
theorem getD_push {listed : Array Bool} {j : Nat} (h : j < listed.size) (b d : Bool) : (listed.push b).getD j d = listed.getD j d := by
  rw [Array.getD_eq_getD_getElem?, Array.getD_eq_getD_getElem?, Array.getElem?_push, if_neg (by omega)]
theorem getD_lt {listed : Array Bool} {j : Nat} (h : listed.getD j true = false) : j < listed.size := by
  rcases Nat.lt_or_ge j listed.size with e | e
  · exact e
  · simp [Array.getD, Nat.not_lt.2 e] at h
theorem getD_false {listed : Array Bool} {j : Nat} (h : listed.getD j true = false) : listed.getD j false = false := by
  have := getD_lt h
  simpa [Array.getD, this] using h
theorem ready_push (hse : ∀ j, j < l.size → ∃ e ∈ st.after, Region.binds md e = true ∧ e.on = j) {listed : Array Bool} (hs : listed.size = l.size) (hb : ∀ (j : Nat) (o : Oper), l[j]? = some o → ∀ e ∈ o.after, e.on < j) (hc : listed.toList.count false ≠ 0) {i : Nat} : i ∈ Region.ready md (l.push st) (listed.push false) ↔ i ∈ Region.ready md l listed := by
  rw [mem_ready, mem_ready]
  constructor
  · rintro ⟨h1, o, ho, hall⟩
    have hi := getD_lt h1
    rw [Array.size_push] at hi
    by_cases he : i = l.size
    · subst he
      rw [Array.getElem?_push, if_pos rfl] at ho
      cases ho
      obtain ⟨j, hj, _⟩ := listed_some hc
      have hjl := getD_lt hj
      obtain ⟨e, he, hbd, rfl⟩ := hse j (by omega)
      have := hall e he hbd
      rw [getD_push hjl, getD_false hj] at this
      cases this
    · have hil : i < listed.size := by omega
      rw [getD_push hil] at h1
      rw [Array.getElem?_push, if_neg he] at ho
      exact ⟨h1, o, ho, fun e he2 hbd => by have h3 := hall e he2 hbd; rwa [getD_push (by have := hb i o ho e he2; omega)] at h3⟩
  · rintro ⟨h1, o, ho, hall⟩
    have hil := getD_lt h1
    refine ⟨by rw [getD_push hil]; exact h1, o, by rw [Array.getElem?_push, if_neg (by omega)]; exact ho, fun e he2 hbd => ?_⟩
    rw [getD_push (by have := hb i o ho e he2; omega)]
    exact hall e he2 hbd
theorem ready_none {ops : Array Oper} {listed : Array Bool} (h : ∀ j, listed.getD j true = true) : Region.ready md ops listed = [] := by
  rw [List.eq_nil_iff_forall_not_mem]
  intro i hi
  have := (mem_ready.1 hi).1
  rw [h i] at this
  cases this
theorem ready_last (hsb : ∀ e ∈ st.after, e.on < l.size) {listed : Array Bool} (hs : listed.size = l.size) (hc : listed.toList.count false = 0) {i : Nat} : i ∈ Region.ready md (l.push st) (listed.push false) ↔ i = l.size := by
  rw [mem_ready]
  constructor
  · rintro ⟨h1, _⟩
    have hi := getD_lt h1
    rw [Array.size_push] at hi
    by_cases he : i < listed.size
    · rw [getD_push he, listed_all hc] at h1; cases h1
    · omega
  · rintro rfl
    refine ⟨by rw [← hs]; simp [Array.getD], st, by rw [Array.getElem?_push, if_pos rfl], fun e he _ => ?_⟩
    have h2 := hsb e he
    rw [getD_push (by omega)]
    have h3 := listed_all hc e.on
    have h4 : e.on < listed.size := by omega
    simpa [Array.getD, h4] using h3
theorem any_last (hg : ∀ o ∈ l.toList, o.guard = none) (hsg : st.guard = none) (hb : ∀ (j : Nat) (o : Oper), l[j]? = some o → ∀ e ∈ o.after, e.on < j) (hse : ∀ j, j < l.size → ∃ e ∈ st.after, Region.binds md e = true ∧ e.on = j) (hsb : ∀ e ∈ st.after, e.on < l.size)
    {Q1 : Act → Prop} (hro : F.round = none) (hQ : ∀ a w, C w → Q1 a → st.wpIn F n P a w (fun a w => Q .normal a w) Q) :
    ∀ (fuel : Nat) (listed : Array Bool) (a : Act) (w : World), C w → listed.size = l.size → listed.toList.count false ≤ fuel → wpAnyQIn F n P md l C Q1 fuel listed a → wpAnyIn F n P md (l.push st) Q (fuel + 1) (listed.push false) a w := by
  have fin : ∀ (fuel : Nat) (listed : Array Bool) (a : Act) (w : World), C w → listed.size = l.size → listed.toList.count false = 0 → Q1 a → wpAnyIn F n P md (l.push st) Q (fuel + 1) (listed.push false) a w := by
    intro fuel listed a w hw hs hc hq
    refine ⟨fun h => ?_, fun i hi => ?_⟩
    · have : l.size ∈ Region.ready md (l.push st) (listed.push false) := (ready_last hsb hs hc).2 rfl
      rw [h] at this; cases this
    · have := (ready_last hsb hs hc).1 hi
      subst this
      unfold wpOpIn
      rw [Array.getElem?_push, if_pos rfl]
      simp only [Region.wanted, hsg, if_true]
      refine Oper.wpIn_mono (fun a' w' hq' => ?_) (hQ a w hw hq)
      have hnone : Region.ready md (l.push st) ((listed.push false).setIfInBounds l.size true) = [] := ready_none fun j => by
        by_cases hj : j = l.size
        · subst hj; rw [← hs]; simp [Array.getD]
        · rw [getD_set_ne true (fun e => hj e.symm)]
          by_cases hj2 : j < listed.size
          · rw [getD_push hj2]; exact listed_all hc j
          · simp [Array.getD, show ¬ j < listed.size + 1 by omega]
      cases fuel with
      | zero => exact ⟨hnone, hq'⟩
      | succ fuel => exact ⟨fun _ => hq', fun i hi => by rw [hnone] at hi; cases hi⟩
  intro fuel
  induction fuel with
  | zero => intro listed a w hw hs hc h; exact fin 0 listed a w hw hs (by omega) h.2
  | succ fuel ih =>
    intro listed a w hw hs hc h
    by_cases hz : listed.toList.count false = 0
    · exact fin _ listed a w hw hs hz (h.1 (ready_none (listed_all hz)))
    · refine ⟨fun h0 => ?_, fun i hi => ?_⟩
      · obtain ⟨j, hj, hm⟩ := listed_some hz
        have hjl := getD_lt hj
        have : j ∈ Region.ready md l listed := mem_ready.2 ⟨hj, l[j], Array.getElem?_eq_getElem (by omega), fun e he _ => hm _ (hb j _ (Array.getElem?_eq_getElem (by omega)) e he)⟩
        rw [← ready_push hse hs hb hz, h0] at this
        cases this
      · have hi' := (ready_push hse hs hb hz).1 hi
        have h1 := (mem_ready.1 hi').1
        have hil := getD_lt h1
        refine op_push (by omega) hg (wpOpIn_of_qOpIn hro hw (fun a' w' hw' hk => ?_) (h.2 i hi'))
        have hcl := count_less h1
        have := ih (listed.setIfInBounds i true) a' w' hw' (by simpa using hs) (by omega) hk
        rw [show (listed.push false).setIfInBounds i true = (listed.setIfInBounds i true).push false from ?_]
        · exact this
        · apply Array.ext_getElem?
          intro j
          simp only [Array.getElem?_setIfInBounds, Array.getElem?_push, Array.size_push, Array.size_setIfInBounds]
          split <;> split <;> simp_all <;> omega
/-- what is asked of such a region's text -/
def lastOk (md : Region.Mode) (L : List Oper) (st : Oper) : Bool :=
  (L.all fun o => o.guard.isNone && (match o.op with | .defer _ => false | _ => true)) && st.guard.isNone && (match st.op with | .defer _ => false | _ => true) && (L.zipIdx.all fun p => p.1.after.all fun e => decide (e.on < p.2)) && ((List.range L.length).all fun j => st.after.any fun e => Region.binds md e && (e.on == j)) && (st.after.all fun e => decide (e.on < L.length))
theorem region_last {a : Act} {w : World} {L : List Oper} (hro : F.round = none) (hB : Region.lexB .any L.toArray = true) (hok : lastOk .any L st = true) (hC : C { w with drawn := w.drawn + 1 })
    (h : wpQuietIn F n P L.toArray C (fun a' => ∀ w', C w' → st.wpIn F n P a' w' (fun a w => Q .normal a w) Q) L a) : wpAnyIn F n P .any (L.toArray.push st) Q (L.toArray.push st).size (Array.replicate (L.toArray.push st).size false) a { w with drawn := w.drawn + 1 } := by
  simp only [lastOk, Bool.and_eq_true, List.all_eq_true, Array.all_eq_true, Array.any_eq_true, Option.isNone_iff_eq_none, decide_eq_true_eq, List.mem_range, beq_iff_eq] at hok
  simp only [Region.lexB, Bool.and_eq_true] at hB
  obtain ⟨⟨⟨⟨⟨h1, h2⟩, h2d⟩, h3⟩, h4⟩, h5⟩ := hok
  have hq := wpAnyQIn_lex (F := F) (n := n) (C := C) (md := .any) hB.1 L 0 (Array.replicate L.toArray.size false) a (by simp) (by simpa using hB.2) h
  have := any_last (F := F) (n := n) (P := P) (md := .any) (l := L.toArray) (st := st) (Q := Q) (C := C) (fun o ho => (h1 o (by simpa using ho)).1) h2 ?_ ?_ ?_ hro (fun a w hw h => h w hw) L.length (Array.replicate L.toArray.size false) a _ hC (by simp) (by simp) hq
  · simpa [Array.replicate_succ] using this
  · intro j o ho e he
    have hj := h3 (o, j) (by rw [List.mem_zipIdx_iff_getElem?]; simpa using ho)
    obtain ⟨k, hk, rfl⟩ := Array.getElem_of_mem he
    exact hj k hk
  · intro j hj
    obtain ⟨k, hk, h6, h7⟩ := h4 j (by simpa using hj)
    exact ⟨_, Array.getElem_mem hk, h6, h7⟩
  · intro e he
    obtain ⟨k, hk, rfl⟩ := Array.getElem_of_mem he
    simpa using h5 k hk
end
/-- such a region in a round's body: one walk over all but the store, and the store in each world behind it -/
theorem region_round_last {n lp id : Nat} {P : Program} {l : List Oper} {st : Oper} {Q : Exit → Act → World → Prop} {a : Act} {w : World} (hst : l.getLast? = some st) (hm : P.follows .mixedOrders = true) (hB : Region.lexB .any l.dropLast.toArray = true) (hok : lastOk .any l.dropLast st = true)
    (h : wpQuietIn Fence.wide n P l.dropLast.toArray (fun w' => ∃ u, w' = ext w u) (fun a' => ∀ w', (∃ u, w' = ext w u) → st.wpIn Fence.wide n P a' w' (fun a w => Q .normal a w) Q) l.dropLast a) : (Code.region id l.toArray true).wpIn (Fence.wide.inRound lp) n P Q a w := by
  have hl : l.toArray = l.dropLast.toArray.push st := by
    have : l = l.dropLast ++ [st] := by
      obtain ⟨ys, rfl⟩ := List.getLast?_eq_some_iff.1 hst
      simp
    conv => lhs; rw [this]
    simp
  have hk := hok
  simp only [lastOk, Bool.and_eq_true, List.all_eq_true] at hk
  rw [hl]
  refine region_round hm (fun o ho c hc => ?_) (region_last (C := fun w' => ∃ u, w' = ext w u) rfl hB hok ⟨w.drew, ext_of ((Below.refl _ _).drew)⟩ h)
  rw [Array.toList_push, List.mem_append] at ho
  rcases ho with ho | ho
  · have := (hk.1.1.1.1.1 o (by simpa using ho)).2
    rw [hc] at this; cases this
  · rw [List.mem_singleton] at ho
    subst ho
    have := hk.1.1.1.2
    rw [hc] at this; cases this
end Go.Proofs.YtphjbbbnbmafnabGreatDoor.G
