/-
  The program's edgesOf by placesTo; Only, Out and In: the edges, a new list, or ErrRange; nothing that was there is written.
-/
import Derived.Test.YtphjbbbnbmafnabGreatDoorPIn
namespace Go.Proofs.YtphjbbbnbmafnabGreatDoor.G
open Go.RowKit

attribute [local go_sem ↓] Go.wp_at_zero Go.wp_at_succ
/-- is an edge to a node of a span? -/
def toB (x y : Int) (e : E3) : Bool := decide (x ≤ e.2.2 ∧ e.2.2 < y)
set_option maxHeartbeats 1000000 in
theorem only_any (u : Int) (w : World) : Calls Tryz.prog 61 #[.int .i64 u] w fun e w' => e = .returned (.agg #[.int .i64 u, .int .i64 (wrap64 (u + 1))]) ∧ Below w.heap.size w w' := by
  go_enter Tryz.func61, Tryz.ntmps61
  go_wp2
  refine bodyPost_ret (v := .agg #[.int .i64 u, .int .i64 (wrap64 (u + 1))]) (by simp [results, Tryz.results61, go_sem]) rfl ?_
  exact ⟨rfl, below1 _ _⟩
/-- a number is one of n just if the span of it alone is one of n -/
theorem only_span (u : Int) (n : Nat) (hn : n ≤ 10000) (h1 : -9223372036854775808 ≤ u) (h2 : u ≤ 9223372036854775807) : (0 ≤ u ∧ u ≤ wrap64 (u + 1) ∧ wrap64 (u + 1) ≤ (n : Int)) ↔ (0 ≤ u ∧ u < (n : Int)) := by
  unfold wrap64
  omega
set_option maxHeartbeats 2000000 in
theorem gout_any {w : World} {b n s : Nat} {L : List E3} (h : GraphAt w b n s L) (u : Int) (h1 : -9223372036854775808 ≤ u) (h2 : u ≤ 9223372036854775807) :
    Calls Tryz.prog 27 #[.pointer (some ⟨b, 0, none⟩), .int .i64 u] w fun e w' => (¬ (0 ≤ u ∧ u < (n : Int)) ∧ e = .returned (.tuple #[.slice none 0 0, .int .i64 1]) ∧ Below w.heap.size w w') ∨ ((0 ≤ u ∧ u < (n : Int)) ∧ ∃ v, e = .returned (.tuple #[v, .int .i64 0]) ∧ OwnE w w' v (L.filter (fromB u (u + 1)))) := by
  have hbd := h.bd
  have hsp := only_span u n hbd.2.1 h1 h2
  have HO : Hid (Calls Tryz.prog 61 _ w _) := only_any u w
  by_cases hu : 0 ≤ u ∧ u < (n : Int)
  · have e : wrap64 (u + 1) = u + 1 := by
      unfold wrap64
      omega
    rw [e] at HO
    obtain ⟨m, rfl⟩ : ∃ m : Nat, u = (m : Int) := ⟨u.toNat, by omega⟩
    have HE : Hid (∀ W, Below w.heap.size w W → Calls Tryz.prog 60 #[.pointer (some ⟨b, 0, none⟩), .agg #[.int .i64 (m : Int), .int .i64 ((m : Int) + 1)], .func (.func 62) #[] #[]] W fun e w' => ∃ v, e = .returned (.tuple #[v, .int .i64 0]) ∧ OwnE W w' v (L.filter (fromB (m : Int) ((m : Int) + 1)))) := (fun W hW => edgesof_from (h.below hW) m (m + 1) ⟨by omega, by omega⟩ : ∀ W, _)
    have HU : Hid _ := hu
    clear h hu hsp e h1 h2
    go_enter Tryz.func27, Tryz.ntmps27
    go_wp2_with fail
    refine (Calls.mono HO.out ?_)
    rintro e w1 ⟨rfl, hB1⟩
    have HB1 : Hid _ := hB1
    clear hB1
    go_wp2_with fail
    refine (Calls.mono (HE.out w1 HB1.out) ?_)
    rintro e w2 ⟨v, rfl, hO⟩
    have HO2 : Hid (OwnE w w2 v (L.filter (fromB (m : Int) ((m : Int) + 1)))) := (⟨own_base hO.1 HB1.out.size, chain HB1.out hO.2⟩ : OwnE _ _ _ _)
    clear hO
    go_wp2
    go_ret2
    exact .inr ⟨HU.out, v, rfl, HO2.out⟩
  · have HE : Hid (∀ W, Below w.heap.size w W → Calls Tryz.prog 60 #[.pointer (some ⟨b, 0, none⟩), .agg #[.int .i64 u, .int .i64 (wrap64 (u + 1))], .func (.func 62) #[] #[]] W _) := (fun W hW => edgesof_no (h.below hW) u (wrap64 (u + 1)) (fun h => hu (hsp.1 h)) _ : ∀ W, _)
    have HU : Hid _ := hu
    clear h hu hsp h1 h2
    generalize wrap64 (u + 1) = z at HO HE
    go_enter Tryz.func27, Tryz.ntmps27
    go_wp2_with fail
    refine (Calls.mono HO.out ?_)
    rintro e w1 ⟨rfl, hB1⟩
    have HB1 : Hid _ := hB1
    clear hB1
    go_wp2_with fail
    refine (Calls.mono (HE.out w1 HB1.out) ?_)
    rintro e w2 ⟨rfl, hB2⟩
    have HB2 : Hid _ := chain HB1.out hB2
    clear hB2
    go_wp2
    go_ret2
    exact .inl ⟨HU.out, rfl, HB2.out⟩
end Go.Proofs.YtphjbbbnbmafnabGreatDoor.G
