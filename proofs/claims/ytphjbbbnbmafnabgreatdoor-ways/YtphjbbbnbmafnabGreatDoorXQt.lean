/-
  A region that draws its order and ends in a store, where some of its operations are guarded: one walk.
  A region that draws its order and ends in a store that stands behind all else, by one step or by more: one walk.
-/
import Derived.Test.YtphjbbbnbmafnabGreatDoorXQl
namespace Go.Proofs.YtphjbbbnbmafnabGreatDoor.G
open Go.RowKit

section
variable {F : Fence} {n : Nat} {P : Program} {md : Region.Mode} {l : Array Oper} {st : Oper} {Q : Exit → Act → World → Prop} {C : World → Prop}
theorem yielded_push (tmps : Array Value) {j : Nat} (hj : j < l.size) : yielded (l.push st) tmps j = yielded l tmps j := by
  unfold yielded
  rw [Array.getElem?_push, if_neg (by omega)]
theorem wanted_push (tmps : Array Value) {o : Oper} (hg : ∀ j b, o.guard = some (j, b) → j < l.size) : Region.wanted o (yielded (l.push st) tmps) = Region.wanted o (yielded l tmps) := by
  unfold Region.wanted
  cases e : o.guard with
  | none => rfl
  | some p =>
    obtain ⟨j, b⟩ := p
    simp only
    rw [yielded_push tmps (hg j b e)]
theorem op_pushG {i : Nat} {K : Act → World → Prop} {a : Act} {w : World} (hi : i < l.size) (hg : ∀ o ∈ l.toList, ∀ j b, o.guard = some (j, b) → j < l.size) (h : wpOpIn F n P l Q i K a w) : wpOpIn F n P (l.push st) Q i K a w := by
  unfold wpOpIn at h ⊢
  rw [Array.getElem?_push, if_neg (by omega)]
  rw [Array.getElem?_eq_getElem hi] at h ⊢
  simp only at h ⊢
  rw [wanted_push a.tmps (hg _ (by simp))]
  exact h
theorem any_lastG (hg : ∀ o ∈ l.toList, ∀ j b, o.guard = some (j, b) → j < l.size) (hsg : st.guard = none) (hb : ∀ (j : Nat) (o : Oper), l[j]? = some o → ∀ e ∈ o.after, e.on < j) (hse : ∀ j, j < l.size → ∃ e ∈ st.after, Region.binds md e = true ∧ e.on = j) (hsb : ∀ e ∈ st.after, e.on < l.size)
    {Q1 : Act → Prop} (hro : F.round = none) (hQ : ∀ a w, C w → Q1 a → st.wpIn F n P a w (fun a w => Q .normal a w) Q) :
    ∀ (fuel : Nat) (listed : Array Bool) (a : Act) (w : World), C w → listed.size = l.size → listed.toList.count false ≤ fuel → wpAnyQIn F n P md l C Q1 fuel listed a → wpAnyIn F n P md (l.push st) Q (fuel + 1) (listed.push false) a w := by
  have fin : ∀ (fuel : Nat) (listed : Array Bool) (a : Act) (w : World), C w → listed.size = l.size → listed.toList.count false = 0 → Q1 a → wpAnyIn F n P md (l.push st) Q (fuel + 1) (listed.push false) a w := by
    intro fuel listed a w hw hs hc hq
    refine ⟨fun h => ?_, fun i hi => ?_⟩
    · have : l.size ∈ Region.ready md (l.push st) (listed.push false) := (ready_last hsb hs hc).2 rfl
      rw [h] at this; cases this
    · have := (ready_last hsb hs hc).1 hi
      subst this
      unfold wpOpIn
      rw [Array.getElem?_push, if_pos rfl]
      simp only [Region.wanted, hsg, if_true]
      refine Oper.wpIn_mono (fun a' w' hq' => ?_) (hQ a w hw hq)
      have hnone : Region.ready md (l.push st) ((listed.push false).setIfInBounds l.size true) = [] := ready_none fun j => by
        by_cases hj : j = l.size
        · subst hj; rw [← hs]; simp [Array.getD]
        · rw [getD_set_ne true (fun e => hj e.symm)]
          by_cases hj2 : j < listed.size
          · rw [getD_push hj2]; exact listed_all hc j
          · simp [Array.getD, show ¬ j < listed.size + 1 by omega]
      cases fuel with
      | zero => exact ⟨hnone, hq'⟩
      | succ fuel => exact ⟨fun _ => hq', fun i hi => by rw [hnone] at hi; cases hi⟩
  intro fuel
  induction fuel with
  | zero => intro listed a w hw hs hc h; exact fin 0 listed a w hw hs (by omega) h.2
  | succ fuel ih =>
    intro listed a w hw hs hc h
    by_cases hz : listed.toList.count false = 0
    · exact fin _ listed a w hw hs hz (h.1 (ready_none (listed_all hz)))
    · refine ⟨fun h0 => ?_, fun i hi => ?_⟩
      · obtain ⟨j, hj, hm⟩ := listed_some hz
        have hjl := getD_lt hj
        have : j ∈ Region.ready md l listed := mem_ready.2 ⟨hj, l[j], Array.getElem?_eq_getElem (by omega), fun e he _ => hm _ (hb j _ (Array.getElem?_eq_getElem (by omega)) e he)⟩
        rw [← ready_push hse hs hb hz, h0] at this
        cases this
      · have hi' := (ready_push hse hs hb hz).1 hi
        have h1 := (mem_ready.1 hi').1
        have hil := getD_lt h1
        refine op_pushG (by omega) hg (wpOpIn_of_qOpIn hro hw (fun a' w' hw' hk => ?_) (h.2 i hi'))
        have hcl := count_less h1
        have := ih (listed.setIfInBounds i true) a' w' hw' (by simpa using hs) (by omega) hk
        rw [show (listed.push false).setIfInBounds i true = (listed.setIfInBounds i true).push false from ?_]
        · exact this
        · apply Array.ext_getElem?
          intro j
          simp only [Array.getElem?_setIfInBounds, Array.getElem?_push, Array.size_push, Array.size_setIfInBounds]
          split <;> split <;> simp_all <;> omega
/-- what is asked of such a region's text -/
def lastOkG (md : Region.Mode) (L : List Oper) (st : Oper) : Bool :=
  (L.all fun o => (match o.guard with | none => true | some (j, _) => decide (j < L.length))) && st.guard.isNone && (L.zipIdx.all fun p => p.1.after.all fun e => decide (e.on < p.2)) && ((List.range L.length).all fun j => st.after.any fun e => Region.binds md e && (e.on == j)) && (st.after.all fun e => decide (e.on < L.length))
theorem region_lastG {a : Act} {w : World} {L : List Oper} (hro : F.round = none) (hB : Region.lexB .any L.toArray = true) (hok : lastOkG .any L st = true) (hC : C { w with drawn := w.drawn + 1 })
    (h : wpQuietIn F n P L.toArray C (fun a' => ∀ w', C w' → st.wpIn F n P a' w' (fun a w => Q .normal a w) Q) L a) : wpAnyIn F n P .any (L.toArray.push st) Q (L.toArray.push st).size (Array.replicate (L.toArray.push st).size false) a { w with drawn := w.drawn + 1 } := by
  simp only [lastOkG, Bool.and_eq_true, List.all_eq_true, Array.all_eq_true, Array.any_eq_true, Option.isNone_iff_eq_none, decide_eq_true_eq, List.mem_range, beq_iff_eq] at hok
  simp only [Region.lexB, Bool.and_eq_true] at hB
  obtain ⟨⟨⟨⟨h1, h2⟩, h3⟩, h4⟩, h5⟩ := hok
  have hq := wpAnyQIn_lex (F := F) (n := n) (C := C) (md := .any) hB.1 L 0 (Array.replicate L.toArray.size false) a (by simp) (by simpa using hB.2) h
  have := any_lastG (F := F) (n := n) (P := P) (md := .any) (l := L.toArray) (st := st) (Q := Q) (C := C) (fun o ho j b hj => by have := h1 o (by simpa using ho); rw [hj] at this; simpa using this) h2 ?_ ?_ ?_ hro (fun a w hw h => h w hw) L.length (Array.replicate L.toArray.size false) a _ hC (by simp) (by simp) hq
  · simpa [Array.replicate_succ] using this
  · intro j o ho e he
    have hj := h3 (o, j) (by rw [List.mem_zipIdx_iff_getElem?]; simpa using ho)
    obtain ⟨k, hk, rfl⟩ := Array.getElem_of_mem he
    exact hj k hk
  · intro j hj
    obtain ⟨k, hk, h6, h7⟩ := h4 j (by simpa using hj)
    exact ⟨_, Array.getElem_mem hk, h6, h7⟩
  · intro e he
    obtain ⟨k, hk, rfl⟩ := Array.getElem_of_mem he
    simpa using h5 k hk
end
/-- a region that draws its order and ends in a store, outside of a round; some of it may be guarded -/
theorem region_plain_lastG {n id : Nat} {P : Program} {l : List Oper} {st : Oper} {Q : Exit → Act → World → Prop} {a : Act} {w : World} (hst : l.getLast? = some st) (hm : P.follows .mixedOrders = true) (hB : Region.lexB .any l.dropLast.toArray = true) (hok : lastOkG .any l.dropLast st = true)
    (h : wpQuietIn Fence.wide n P l.dropLast.toArray (fun w' => ∃ u, w' = ext w u) (fun a' => ∀ w', (∃ u, w' = ext w u) → st.wpIn Fence.wide n P a' w' (fun a w => Q .normal a w) Q) l.dropLast a) : (Code.region id l.toArray true).wp P Q a w := by
  have hl : l.toArray = l.dropLast.toArray.push st := by
    have : l = l.dropLast ++ [st] := by
      obtain ⟨ys, rfl⟩ := List.getLast?_eq_some_iff.1 hst
      simp
    conv => lhs; rw [this]
    simp
  rw [hl]
  exact wpIn_wide.1 (wpIn_region_any hm (region_lastG (C := fun w' => ∃ u, w' = ext w u) rfl hB hok ⟨w.drew, ext_of ((Below.refl _ _).drew)⟩ h))
end Go.Proofs.YtphjbbbnbmafnabGreatDoor.G

namespace Go.Proofs.YtphjbbbnbmafnabGreatDoor.G
open Go.RowKit

section
variable {F : Fence} {n : Nat} {P : Program} {md : Region.Mode} {l : Array Oper} {st : Oper} {Q : Exit → Act → World → Prop} {C : World → Prop}
/-- what is listed has all that it stands behind listed -/
def Cl (md : Region.Mode) (l : Array Oper) (listed : Array Bool) : Prop := ∀ (j : Nat) (o : Oper), l[j]? = some o → listed.getD j false = true → ∀ e ∈ o.after, Region.binds md e = true → listed.getD e.on false = true
/-- the last stands behind all, by one step or by more -/
def Up (md : Region.Mode) (l : Array Oper) (st : Oper) : Prop := ∀ j, j < l.size → (∃ e ∈ st.after, Region.binds md e = true ∧ e.on = j) ∨ ∃ k o, j < k ∧ l[k]? = some o ∧ ∃ e ∈ o.after, Region.binds md e = true ∧ e.on = j
theorem up_all (hu : Up md l st) {listed : Array Bool} (hc : Cl md l listed) (h : ∀ e ∈ st.after, Region.binds md e = true → e.on < l.size → listed.getD e.on false = true) : ∀ m j, j < l.size → l.size - j ≤ m → listed.getD j false = true := by
  intro m
  induction m with
  | zero => intro j hj hm; omega
  | succ m ih =>
    intro j hj hm
    rcases hu j hj with ⟨e, he, hb, rfl⟩ | ⟨k, o, hk, ho, e, he, hb, rfl⟩
    · exact h e he hb hj
    · have hkl := (Array.getElem?_eq_some_iff.1 ho).1
      exact hc k o ho (ih k hkl (by omega)) e he hb
theorem cl_start (m : Nat) : Cl md l (Array.replicate m false) := fun j o _ h => by
  rw [Array.getD_eq_getD_getElem?, Array.getElem?_replicate] at h
  split at h <;> cases h
theorem getD_set_self {listed : Array Bool} {i : Nat} (h : i < listed.size) (d : Bool) : (listed.setIfInBounds i true).getD i d = true := by
  rw [Array.getD_eq_getD_getElem?, Array.getElem?_setIfInBounds, if_pos rfl, if_pos h]; rfl
theorem getD_set_other {listed : Array Bool} {i j : Nat} (h : i ≠ j) (d : Bool) : (listed.setIfInBounds i true).getD j d = listed.getD j d := by
  rw [Array.getD_eq_getD_getElem?, Array.getD_eq_getD_getElem?, Array.getElem?_setIfInBounds, if_neg h]
theorem Cl.set {listed : Array Bool} (hc : Cl md l listed) {i : Nat} (hi : i < listed.size) (hall : ∀ o, l[i]? = some o → ∀ e ∈ o.after, Region.binds md e = true → listed.getD e.on false = true) : Cl md l (listed.setIfInBounds i true) := fun j o ho hj e he hb => by
  have key : listed.getD e.on false = true := by
    by_cases e2 : i = j
    · subst e2; exact hall o ho e he hb
    · rw [getD_set_other e2] at hj
      exact hc j o ho hj e he hb
  by_cases e3 : i = e.on
  · rw [← e3]; exact getD_set_self hi false
  · rw [getD_set_other e3]; exact key
theorem ready_pushT (hu : Up md l st) {listed : Array Bool} (hs : listed.size = l.size) (hb : ∀ (j : Nat) (o : Oper), l[j]? = some o → ∀ e ∈ o.after, e.on < j) (hcl : Cl md l listed) (hc : listed.toList.count false ≠ 0) {i : Nat} : i ∈ Region.ready md (l.push st) (listed.push false) ↔ i ∈ Region.ready md l listed := by
  rw [mem_ready, mem_ready]
  constructor
  · rintro ⟨h1, o, ho, hall⟩
    have hi := getD_lt h1
    rw [Array.size_push] at hi
    by_cases he : i = l.size
    · subst he
      rw [Array.getElem?_push, if_pos rfl] at ho
      cases ho
      obtain ⟨j, hj, _⟩ := listed_some hc
      have hjl := getD_lt hj
      have hall2 := up_all hu hcl (fun e he2 hbd hlt => by have h3 := hall e he2 hbd; rwa [getD_push (by omega)] at h3) l.size j (by omega) (by omega)
      rw [getD_false hj] at hall2
      cases hall2
    · have hil : i < listed.size := by omega
      rw [getD_push hil] at h1
      rw [Array.getElem?_push, if_neg he] at ho
      exact ⟨h1, o, ho, fun e he2 hbd => by have h3 := hall e he2 hbd; rwa [getD_push (by have := hb i o ho e he2; omega)] at h3⟩
  · rintro ⟨h1, o, ho, hall⟩
    have hil := getD_lt h1
    refine ⟨by rw [getD_push hil]; exact h1, o, by rw [Array.getElem?_push, if_neg (by omega)]; exact ho, fun e he2 hbd => ?_⟩
    rw [getD_push (by have := hb i o ho e he2; omega)]
    exact hall e he2 hbd
theorem any_lastT (hg : ∀ o ∈ l.toList, ∀ j b, o.guard = some (j, b) → j < l.size) (hsg : st.guard = none) (hb : ∀ (j : Nat) (o : Oper), l[j]? = some o → ∀ e ∈ o.after, e.on < j) (hu : Up md l st) (hsb : ∀ e ∈ st.after, e.on < l.size)
    {Q1 : Act → Prop} (hro : F.round = none) (hQ : ∀ a w, C w → Q1 a → st.wpIn F n P a w (fun a w => Q .normal a w) Q) :
    ∀ (fuel : Nat) (listed : Array Bool) (a : Act) (w : World), C w → listed.size = l.size → Cl md l listed → listed.toList.count false ≤ fuel → wpAnyQIn F n P md l C Q1 fuel listed a → wpAnyIn F n P md (l.push st) Q (fuel + 1) (listed.push false) a w := by
  have fin : ∀ (fuel : Nat) (listed : Array Bool) (a : Act) (w : World), C w → listed.size = l.size → listed.toList.count false = 0 → Q1 a → wpAnyIn F n P md (l.push st) Q (fuel + 1) (listed.push false) a w := by
    intro fuel listed a w hw hs hc hq
    refine ⟨fun h => ?_, fun i hi => ?_⟩
    · have : l.size ∈ Region.ready md (l.push st) (listed.push false) := (ready_last hsb hs hc).2 rfl
      rw [h] at this; cases this
    · have := (ready_last hsb hs hc).1 hi
      subst this
      unfold wpOpIn
      rw [Array.getElem?_push, if_pos rfl]
      simp only [Region.wanted, hsg, if_true]
      refine Oper.wpIn_mono (fun a' w' hq' => ?_) (hQ a w hw hq)
      have hnone : Region.ready md (l.push st) ((listed.push false).setIfInBounds l.size true) = [] := ready_none fun j => by
        by_cases hj : j = l.size
        · subst hj; rw [← hs]; simp [Array.getD]
        · rw [getD_set_ne true (fun e => hj e.symm)]
          by_cases hj2 : j < listed.size
          · rw [getD_push hj2]; exact listed_all hc j
          · simp [Array.getD, show ¬ j < listed.size + 1 by omega]
      cases fuel with
      | zero => exact ⟨hnone, hq'⟩
      | succ fuel => exact ⟨fun _ => hq', fun i hi => by rw [hnone] at hi; cases hi⟩
  intro fuel
  induction fuel with
  | zero => intro listed a w hw hs hcl hc h; exact fin 0 listed a w hw hs (by omega) h.2
  | succ fuel ih =>
    intro listed a w hw hs hcl hc h
    by_cases hz : listed.toList.count false = 0
    · exact fin _ listed a w hw hs hz (h.1 (ready_none (listed_all hz)))
    · refine ⟨fun h0 => ?_, fun i hi => ?_⟩
      · obtain ⟨j, hj, hm⟩ := listed_some hz
        have hjl := getD_lt hj
        have : j ∈ Region.ready md l listed := mem_ready.2 ⟨hj, l[j], Array.getElem?_eq_getElem (by omega), fun e he _ => hm _ (hb j _ (Array.getElem?_eq_getElem (by omega)) e he)⟩
        rw [← ready_pushT hu hs hb hcl hz, h0] at this
        cases this
      · have hi' := (ready_pushT hu hs hb hcl hz).1 hi
        have h1 := (mem_ready.1 hi').1
        have hil := getD_lt h1
        refine op_pushG (by omega) hg (wpOpIn_of_qOpIn hro hw (fun a' w' hw' hk => ?_) (h.2 i hi'))
        have hless := count_less h1
        have := ih (listed.setIfInBounds i true) a' w' hw' (by simpa using hs) (hcl.set hil fun o ho => by obtain ⟨o2, ho2, h5⟩ := (mem_ready.1 hi').2; rw [ho] at ho2; cases ho2; exact h5) (by omega) hk
        rw [show (listed.push false).setIfInBounds i true = (listed.setIfInBounds i true).push false from ?_]
        · exact this
        · apply Array.ext_getElem?
          intro j
          simp only [Array.getElem?_setIfInBounds, Array.getElem?_push, Array.size_push, Array.size_setIfInBounds]
          split <;> split <;> simp_all <;> omega
/-- what is asked of such a region's text -/
def lastOkT (md : Region.Mode) (L : List Oper) (st : Oper) : Bool :=
  (L.all fun o => (match o.guard with | none => true | some (j, _) => decide (j < L.length))) && st.guard.isNone && (L.zipIdx.all fun p => p.1.after.all fun e => decide (e.on < p.2)) && ((List.range L.length).all fun j => (st.after.any fun e => Region.binds md e && (e.on == j)) || (L.zipIdx.any fun p => decide (j < p.2) && (p.1.after.any fun e => Region.binds md e && (e.on == j)))) && (st.after.all fun e => decide (e.on < L.length))
theorem region_lastT {a : Act} {w : World} {L : List Oper} (hro : F.round = none) (hB : Region.lexB .any L.toArray = true) (hok : lastOkT .any L st = true) (hC : C { w with drawn := w.drawn + 1 })
    (h : wpQuietIn F n P L.toArray C (fun a' => ∀ w', C w' → st.wpIn F n P a' w' (fun a w => Q .normal a w) Q) L a) : wpAnyIn F n P .any (L.toArray.push st) Q (L.toArray.push st).size (Array.replicate (L.toArray.push st).size false) a { w with drawn := w.drawn + 1 } := by
  simp only [lastOkT, Bool.and_eq_true, Bool.or_eq_true, List.all_eq_true, List.any_eq_true, Array.all_eq_true, Array.any_eq_true, Option.isNone_iff_eq_none, decide_eq_true_eq, List.mem_range, beq_iff_eq] at hok
  simp only [Region.lexB, Bool.and_eq_true] at hB
  obtain ⟨⟨⟨⟨h1, h2⟩, h3⟩, h4⟩, h5⟩ := hok
  have hq := wpAnyQIn_lex (F := F) (n := n) (C := C) (md := .any) hB.1 L 0 (Array.replicate L.toArray.size false) a (by simp) (by simpa using hB.2) h
  have := any_lastT (F := F) (n := n) (P := P) (md := .any) (l := L.toArray) (st := st) (Q := Q) (C := C) (fun o ho j b hj => by have := h1 o (by simpa using ho); rw [hj] at this; simpa using this) h2 ?_ ?_ ?_ hro (fun a w hw h => h w hw) L.length (Array.replicate L.toArray.size false) a _ hC (by simp) (cl_start _) (by simp) hq
  · simpa [Array.replicate_succ] using this
  · intro j o ho e he
    have hj := h3 (o, j) (by rw [List.mem_zipIdx_iff_getElem?]; simpa using ho)
    obtain ⟨k, hk, rfl⟩ := Array.getElem_of_mem he
    exact hj k hk
  · intro j hj
    rcases h4 j (by simpa using hj) with ⟨k, hk, h6, h7⟩ | ⟨p, hp, h6, k, hk, h7, h8⟩
    · exact .inl ⟨_, Array.getElem_mem hk, h6, h7⟩
    · rw [List.mem_zipIdx_iff_getElem?] at hp
      exact .inr ⟨p.2, p.1, h6, by simpa using hp, _, Array.getElem_mem hk, h7, h8⟩
  · intro e he
    obtain ⟨k, hk, rfl⟩ := Array.getElem_of_mem he
    simpa using h5 k hk
end
/-- a region that draws its order and ends in a store, outside of a round -/
theorem region_plain_lastT {n id : Nat} {P : Program} {l : List Oper} {st : Oper} {Q : Exit → Act → World → Prop} {a : Act} {w : World} (hst : l.getLast? = some st) (hm : P.follows .mixedOrders = true) (hB : Region.lexB .any l.dropLast.toArray = true) (hok : lastOkT .any l.dropLast st = true)
    (h : wpQuietIn Fence.wide n P l.dropLast.toArray (fun w' => ∃ u, w' = ext w u) (fun a' => ∀ w', (∃ u, w' = ext w u) → st.wpIn Fence.wide n P a' w' (fun a w => Q .normal a w) Q) l.dropLast a) : (Code.region id l.toArray true).wp P Q a w := by
  have hl : l.toArray = l.dropLast.toArray.push st := by
    have : l = l.dropLast ++ [st] := by
      obtain ⟨ys, rfl⟩ := List.getLast?_eq_some_iff.1 hst
      simp
    conv => lhs; rw [this]
    simp
  rw [hl]
  exact wpIn_wide.1 (wpIn_region_any hm (region_lastT (C := fun w' => ∃ u, w' = ext w u) rfl hB hok ⟨w.drew, ext_of ((Below.refl _ _).drew)⟩ h))
end Go.Proofs.YtphjbbbnbmafnabGreatDoor.G
