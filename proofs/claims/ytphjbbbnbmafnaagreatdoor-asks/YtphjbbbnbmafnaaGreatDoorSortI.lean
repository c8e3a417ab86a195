/-
  slices.Sort over a row of numbers of one's own: in order, the same numbers; nothing else is written.
-/
import Derived.Test.YtphjbbbnbmafnaaGreatDoorShelfS
import Derived.Test.YtphjbbbnbmafnaaGreatDoorPSp16
import Derived.Sort.OwnSortedInts
namespace Go.Proofs.YtphjbbbnbmafnaaGreatDoor.G
open Go.RowKit Go.Sort

def toI (P : List Nat) : List Int := P.map fun (p : Nat) => (p : Int)
theorem vals_toI (P : List Nat) : vals .i64 P = (toI P).map (Value.int .i64) := by unfold vals toI; rw [List.map_map]; rfl
theorem sorti_own (P : List Nat) (base : Nat) (v : Value) (W : World) (hrow : W.ownsRow base 3 1 v P.length (vals .i64 P)) (hl : P.length ≤ 1000000) :
    Calls Tryz.prog 71 #[v] W fun e w' => e = .returned (.tuple #[]) ∧ (∃ S : List Nat, S.Perm P ∧ S.Pairwise (· ≤ ·) ∧ w'.ownsRow base 3 1 v S.length (vals .i64 S)) ∧ W.grownBy w' v.ownBlock := by
  rcases hrow.2 with ⟨rfl, h0⟩ | ⟨g, cap, cur, rfl, hbase, hgb, r1, r2, r3, r4⟩
  · obtain rfl : P = [] := List.eq_nil_of_length_eq_zero h0
    refine (Tryz.slices_Sort_int_none none 0 W).mono ?_
    rintro e w' ⟨rfl, rfl⟩
    exact ⟨rfl, ⟨[], List.Perm.refl _, List.Pairwise.nil, hrow⟩, ⟨rfl, rfl, rfl, Nat.le_refl _, fun _ _ _ => rfl⟩⟩
  · have hz : (toI P).length = P.length := by simp [toI]
    have hh : Holds (Value.int .i64) W g 0 (toI P).toArray := holds_of_blockI hgb (by rw [hz, ← vals_toI]; simpa using r4)
    have hcon := Tryz.slices_Sort_int g 0 cap (toI P) W hh (Array.getElem?_eq_some_iff.1 hgb).1 (by omega)
    rw [hz] at hcon
    refine hcon.mono ?_
    rintro e w' ⟨rfl, n, os, rfl⟩
    have hperm : ((toI P).mergeSort fun x y => decide (x ≤ y)).Perm (toI P) := List.mergeSort_perm _ _
    have hpw := List.pairwise_mergeSort (le := fun x y : Int => decide (x ≤ y)) (fun a b c h1 h2 => by simp at h1 h2 ⊢; omega) (fun a b => by simp; omega) (toI P)
    generalize ((toI P).mergeSort fun x y => decide (x ≤ y)) = T at hperm hpw
    have hnn : ∀ x ∈ T, 0 ≤ x := fun x hx => by
      have := hperm.mem_iff.1 hx
      unfold toI at this
      obtain ⟨p, _, rfl⟩ := List.mem_map.1 this
      omega
    have hTl : T.length = P.length := by rw [hperm.length_eq, hz]
    have hTv : vals .i64 (T.map Int.toNat) = T.map (Value.int .i64) := by
      unfold vals
      rw [List.map_map]
      refine List.map_congr_left (fun x hx => ?_)
      have := hnn x hx
      simp only [Function.comp]
      rw [Int.toNat_of_nonneg this]
    refine ⟨rfl, ⟨T.map Int.toNat, ?_, ?_, ?_⟩, grownBy_sortedI _⟩
    · have h := hperm.map Int.toNat
      have e : (toI P).map Int.toNat = P := by
        unfold toI
        rw [List.map_map]
        exact (List.map_congr_left (fun x _ => rfl)).trans (List.map_id P)
      rwa [e] at h
    · rw [List.pairwise_map]
      exact hpw.imp_of_mem (fun {a b} ha hb hab => by
        have := hnn a ha
        have := hnn b hb
        simp at hab
        omega)
    · rw [hTv, List.length_map, hTl]
      have h := ownsRow_sortedI (w := W) (n := n) (os := os) (ss := toI P) (ts := T) (by rw [hTl, hz]) hbase hgb (by rw [hz]; exact r1) r2 r3
      rwa [hz] at h
end Go.Proofs.YtphjbbbnbmafnaaGreatDoor.G
