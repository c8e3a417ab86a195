/-
  trellislaw.cut over any list of numbers in memory: a new list as long, each of its numbers from 0 up to but without 'most'; nothing that was there is written. No condition but that the list is no longer than memory allows.
-/
import Derived.Test.YtphjbbbnbmafnaaNums
namespace Go.Proofs.Ytphjbbbnbmafnaa
open Go.RowKit

/-- a slice of numbers of Go's int, whatever they are -/
def RawAt (w : World) (a0 : Option Addr) (len : Nat) (R : Nat → Int) : Prop :=
  len = 0 ∨ ∃ b off, a0 = some ⟨b, off, none⟩ ∧ ∀ i, i < len → w.cell? ⟨b, off + i, none⟩ = some (.int .i64 (R i))
theorem RawAt.below {w w' : World} {a0 : Option Addr} {len : Nat} {R : Nat → Int} (h : RawAt w a0 len R) (hB : Below w.heap.size w w') : RawAt w' a0 len R := by
  rcases h with h | ⟨b, off, ha, hc⟩
  · exact .inl h
  · exact .inr ⟨b, off, ha, fun i hi => cell_kept hB _ _ (hc i hi)⟩
theorem Try.infoI : (Try.prog.info? 3).map (fun i => (i.zero, i.size, i.bytes)) = some (some (.int .i64 0), 1, 8) := by kernel_rfl
/-- a row of one's own that reads as a list of int -/
def OwnI (w wr : World) (v : Value) (l : List Nat) : Prop := wr.ownsRow w.heap.size 3 1 v l.length (vals .i64 l) ∧ Below w.heap.size w wr
theorem ownI_snoc {w wr w2 : World} {v v' : Value} {l : List Nat} {x : Nat} {o : Obj} (h : OwnI w wr v l) (hown : w2.ownsRow w.heap.size 3 1 v' (l.length + 1) (vals .i64 l ++ [.int .i64 (x : Int)])) (hg : (wr.alloc o).grownBy w2 v.ownBlock) : OwnI w w2 v' (l ++ [x]) := by
  refine ⟨by rw [vals_snoc, List.length_append]; exact hown, ?_⟩
  exact (h.2.alloc h.2.size o).grown hg (by have := h.2.size; simp; omega) (fun j hj => (h.1.lt j hj).1)
theorem tmod_bound (a : Int) (M : Nat) (hM : 0 < M) : -(M : Int) < a.tmod (M : Int) ∧ a.tmod (M : Int) < (M : Int) := by
  have h1 := Int.tmod_lt_of_pos a (show (0 : Int) < (M : Int) by omega)
  have h2 := Int.lt_tmod_of_pos a (show (0 : Int) < (M : Int) by omega)
  exact ⟨h2, h1⟩

theorem src_one (w : World) (x : Value) (t : TypeId) (j : Nat) (u : Value) (hj : [x][j]? = some u) : (w.alloc (.cells #[x] t)).cell? ((⟨w.heap.size, 0, none⟩ : Addr).add j) = some u := by
  match j, hj with
  | 0, hj => simp at hj; subst hj; simp [Addr.add]
theorem cells_one (k : IntKind) (x : Int) (u : Value) (hu : u ∈ [Value.int k x]) : u.oneCell' = true := by
  simp at hu; subst hu; rfl
theorem le_alloc {B : Nat} {w : World} {o : Obj} (h : B ≤ w.heap.size) : B ≤ (w.alloc o).heap.size := by simp; omega
set_option maxHeartbeats 2000000 in
set_option maxRecDepth 100000 in
theorem cut_any (a0 : Option Addr) (len cap : Nat) (R : Nat → Int) (M : Nat) (hM : 0 < M) (hM2 : M ≤ 65536) (w : World) (hrow : RawAt w a0 len R) (hlen : len * 8 ≤ 140737488351232) :
    Calls Try.prog 22 #[.slice a0 len cap, .int .i64 (M : Int)] w fun e w' => ∃ v l, e = .returned v ∧ l.length = len ∧ (∀ x ∈ l, x < M) ∧ NumsAt .i64 w' v l ∧ Below w.heap.size w w' := by
  have HR : Hid (RawAt w a0 len R) := hrow
  clear hrow
  obtain ⟨i0, hi, hz0, hz1, hz2⟩ := info_parts Try.infoI
  have hMz : ((M : Int) == 0) = false := by simp; omega
  go_enter Try.func22, Try.ntmps22
  go_wp2
  go_loopw [5, 6] (fun v c wr => ∃ (k : Nat) (l : List Nat), k ≤ len ∧ c = .int .i64 k ∧ Hid (l.length = k ∧ (∀ x ∈ l, x < M) ∧ OwnI w wr v l)) (fun _ c _ => len - (intOf c).toNat)
  case atStart => exact ⟨0, [], Nat.zero_le _, rfl, rfl, (fun x hx => by cases hx), World.ownsRow_nil _ _ _ _, Below.refl _ _⟩
  case round =>
    obtain ⟨k, l, hk, rfl, HI⟩ := hrel
    by_cases hlt : k < len
    · obtain ⟨b, off, rfl, hcell⟩ := HR.out.resolve_left (by omega)
      obtain ⟨hll, hlx, hown⟩ := HI.out
      have hxc := cell_kept hown.2 _ _ (hcell k hlt)
      have hkl : (k : Int) < (len : Int) := by omega
      have hrow := hown.1
      have hsz := hown.2.size
      obtain ⟨ht1, ht2⟩ := tmod_bound (R k) M hM
      have HO : Hid (OwnI w wr u5 l) := hown
      have HLL : Hid _ := hll
      have HLX : Hid _ := hlx
      have hl8 : (l.length + 1) * 8 ≤ 140737488355328 := by rw [hll]; omega
      have hl9 : l.length + 1 ≤ 2 ^ 63 - 1 := by omega
      clear hcell hown hll hlx HI
      by_cases hneg : (R k).tmod (M : Int) < 0
      · obtain ⟨r, hr⟩ : ∃ r : Nat, (R k).tmod (M : Int) + (M : Int) = (r : Int) := ⟨((R k).tmod (M : Int) + (M : Int)).toNat, by omega⟩
        have hrM : r < M := by omega
        go_wp2_with (at_builtin; refine wpList_append_own _ rfl _ _ 29 rfl w.heap.size 3 i0 (.int .i64 0) 1 8 Try.underlying29 hi hz0 hz1 hz2 rfl (by decide) _ _ _ rfl (hrow.alloc _) ⟨wr.heap.size, 0, none⟩ 1 1 [.int .i64 (r : Int)] rfl rfl (src_one _ _ _) (cells_one _ _) (by unfold maxLen; omega) hl8 (le_alloc hsz) ?_)
        intro v' w3 hown' hgrow _
        have HO2 : Hid _ := ownI_snoc HO.out hown' hgrow
        clear hown' hgrow hrow
        go_wp2
        go_roundw
        case rel =>
          exact ⟨k + 1, l ++ [r], by omega, by go_num, by rw [List.length_append, HLL.out]; rfl, fun x hx => by
            rcases List.mem_append.1 hx with h | h
            · exact HLX.out x h
            · simp at h; subst h; exact hrM, HO2.out⟩
        case measure => simp [intOf]; omega
      · obtain ⟨r, hr⟩ : ∃ r : Nat, (R k).tmod (M : Int) = (r : Int) := ⟨((R k).tmod (M : Int)).toNat, by omega⟩
        have hrM : r < M := by omega
        go_wp2_with (at_builtin; refine wpList_append_own _ rfl _ _ 29 rfl w.heap.size 3 i0 (.int .i64 0) 1 8 Try.underlying29 hi hz0 hz1 hz2 rfl (by decide) _ _ _ rfl (hrow.alloc _) ⟨wr.heap.size, 0, none⟩ 1 1 [.int .i64 (r : Int)] rfl rfl (src_one _ _ _) (cells_one _ _) (by unfold maxLen; omega) hl8 (le_alloc hsz) ?_)
        intro v' w3 hown' hgrow _
        have HO2 : Hid _ := ownI_snoc HO.out hown' hgrow
        clear hown' hgrow hrow
        go_wp2
        go_roundw
        case rel =>
          exact ⟨k + 1, l ++ [r], by omega, by go_num, by rw [List.length_append, HLL.out]; rfl, fun x hx => by
            rcases List.mem_append.1 hx with h | h
            · exact HLX.out x h
            · simp at h; subst h; exact hrM, HO2.out⟩
        case measure => simp [intOf]; omega
    · obtain rfl : k = len := by omega
      obtain ⟨hll, hlx, hown⟩ := HI.out
      have HO : Hid (OwnI w wr u5 l) := hown
      have HLL : Hid _ := hll
      have HLX : Hid _ := hlx
      clear hown hll hlx HI
      go_wp2
      go_ret
      exact ⟨_, l, rfl, HLL.out, HLX.out, nums_own HO.out.1, HO.out.2⟩
end Go.Proofs.Ytphjbbbnbmafnaa
