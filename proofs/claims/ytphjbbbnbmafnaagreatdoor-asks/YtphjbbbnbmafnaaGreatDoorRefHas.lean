/-
  The document's own Has and Count over its graph (trellisref.Graph): whether an edge is there; how many edges are within three spans; or ErrRange; nothing that was there is written.
-/
import Derived.Test.YtphjbbbnbmafnaaGreatDoorRefOut
import Derived.Test.YtphjbbbnbmafnaaGreatDoorEqE
import Derived.Deep.RegionHeld
import Derived.Laws.StructEq
import Derived.Laws.Tables
import Derived.Laws.Cover2
namespace Go.Proofs.YtphjbbbnbmafnaaGreatDoor.G
open Go.RowKit

set_option maxHeartbeats 2000000 in
set_option maxRecDepth 100000 in
theorem has_any {w : World} {b : Nat} {n s : Int} {v : Value} {l : List E3} (hg : RGraph w b n s v l) (hl : l.length ≤ 1000000) (f c t : Int) :
    Calls Tryz.prog 21 #[.pointer (some ⟨b, 0, none⟩), .agg #[.int .i64 f, .int .i64 c, .int .i64 t]] w fun e w' => e = .returned (.tuple #[.bool (decide (0 ≤ f ∧ f < n ∧ 0 ≤ c ∧ c < s ∧ 0 ≤ t ∧ t < n) && decide ((f, c, t) ∈ l)), .int .i64 (if 0 ≤ f ∧ f < n ∧ 0 ≤ c ∧ c < s ∧ 0 ≤ t ∧ t < n then 0 else 1)]) ∧ Below w.heap.size w w' := by
  have hnew := below1 w (.cells #[.int .i64 f, .int .i64 c, .int .i64 t] 38)
  have hg1 := hg.below hnew
  have h0 := hg1.cn
  have h1 := hg1.cs
  have HW : Hid (∀ w2, Calls Tryz.prog 38 _ w2 _) := fun w2 => within_any f c t n s w2
  have HG : Hid (RGraph w b n s v l) := hg
  have HB : Hid _ := hnew
  clear hg hg1 hnew
  by_cases hin : 0 ≤ f ∧ f < n ∧ 0 ≤ c ∧ c < s ∧ 0 ≤ t ∧ t < n
  · rw [decide_eq_true hin] at HW
    rw [decide_eq_true hin, if_pos hin, Bool.true_and]
    clear hin
    go_enter Tryz.func21, Tryz.ntmps21
    go_wp2
    go_region_held (fun w' => w'.cell? ⟨w.heap.size, 0, none⟩ = some (.int .i64 f) ∧ w'.cell? ⟨w.heap.size, 1, none⟩ = some (.int .i64 c) ∧ w'.cell? ⟨w.heap.size, 2, none⟩ = some (.int .i64 t) ∧ w'.cell? ⟨b, 0, none⟩ = some (.int .i64 n) ∧ w'.cell? ⟨b, 1, none⟩ = some (.int .i64 s)) (go_keep) (first
      | (go_at_call 38; refine (HW.out _).mono ?_; rintro e w' ⟨rfl, hB⟩; have q0 := cell_kept hB ⟨w.heap.size, 0, none⟩ (.int .i64 f) (by simp); have q1 := cell_kept hB ⟨w.heap.size, 1, none⟩ (.int .i64 c) (by simp); have q2 := cell_kept hB ⟨w.heap.size, 2, none⟩ (.int .i64 t) (by simp); have q3 := cell_kept hB ⟨b, 0, none⟩ (.int .i64 n) h0; have q4 := cell_kept hB ⟨b, 1, none⟩ (.int .i64 s) h1))
    have hb2 := chain (HB.out.drew) hB
    have hg2 := HG.out.below hb2
    obtain ⟨a0, cap, rfl, hed⟩ := id hg2.ed
    have HE : Hid _ := hed
    have hce := hg2.ce
    have HB2 : Hid _ := hb2
    clear hed hg2 hb2 hB h0 h1 q3 q4
    go_wp2
    go_loopw [7] (fun si wr => ∃ i q : Nat, i ≤ l.length ∧ si = .int .i64 (i : Int) ∧ wr = w'.drewN q ∧ Hid (∀ x ∈ l.take i, x ≠ (f, c, t))) (fun si _ => l.length - (intOf si).toNat)
    case atStart => exact ⟨0, 0, Nat.zero_le _, rfl, rfl, (fun x hx => by simp at hx : ∀ x ∈ l.take 0, x ≠ (f, c, t))⟩
    case round =>
      obtain ⟨i, q, hil, rfl, rfl, HI⟩ := hrel
      by_cases hlt : i < l.length
      · obtain ⟨x, hx⟩ : ∃ x, l[i]? = some x := ⟨l[i], List.getElem?_eq_getElem hlt⟩
        obtain ⟨g, off, rfl, c0, c1, c2⟩ := HE.out i x hx
        have hiI : (i : Int) < (l.length : Int) := by omega
        obtain ⟨x1, x2, x3⟩ := x
        simp only at c0 c1 c2
        have HX : Hid (l[i]? = some (x1, x2, x3)) := hx
        clear hx
        have gE := guardE
        by_cases hxe : (x1, x2, x3) = (f, c, t)
        · have hEq := eqlE x1 x2 x3 f c t true (decide_eq_true hxe)
          have HM : Hid (decide ((f, c, t) ∈ l) = true) := (decide_eq_true (by rw [← hxe]; exact List.mem_of_getElem? HX.out) : _ = _)
          clear hxe
          go_wp2
          go_quiet (fail)
          go_wp2
          go_ret2
          exact ⟨by rw [HM.out]; rfl, below_drewN (below_drewN HB2.out _) _⟩
        · have hEq := eqlE x1 x2 x3 f c t false (decide_eq_false hxe)
          have HN : Hid (∀ x ∈ l.take (i + 1), x ≠ (f, c, t)) := (fun x hx => by
            rw [List.take_add_one, HX.out, Option.toList_some] at hx
            rcases List.mem_append.1 hx with h | h
            · exact HI.out x h
            · simp at h; rw [h]; exact hxe : ∀ x ∈ l.take (i + 1), x ≠ (f, c, t))
          clear hxe
          go_wp2
          go_quiet (fail)
          go_wp2
          go_roundw
          case rel => exact ⟨i + 1, _, by omega, by go_num, rfl, HN.out⟩
          case measure => simp [intOf]; omega
      · obtain rfl : i = l.length := by omega
        have HM : Hid (decide ((f, c, t) ∈ l) = false) := (decide_eq_false (fun h => by
          have := HI.out (f, c, t)
          rw [List.take_length] at this
          exact this h rfl) : _ = _)
        go_wp2
        go_ret2
        exact ⟨by rw [HM.out]; rfl, below_drewN HB2.out _⟩
  · rw [decide_eq_false hin] at HW
    rw [decide_eq_false hin, if_neg hin, Bool.false_and]
    clear hin
    go_enter Tryz.func21, Tryz.ntmps21
    go_wp2
    go_region_held (fun w' => w'.cell? ⟨w.heap.size, 0, none⟩ = some (.int .i64 f) ∧ w'.cell? ⟨w.heap.size, 1, none⟩ = some (.int .i64 c) ∧ w'.cell? ⟨w.heap.size, 2, none⟩ = some (.int .i64 t) ∧ w'.cell? ⟨b, 0, none⟩ = some (.int .i64 n) ∧ w'.cell? ⟨b, 1, none⟩ = some (.int .i64 s)) (go_keep) (first
      | (go_at_call 38; refine (HW.out _).mono ?_; rintro e w' ⟨rfl, hB⟩; have q0 := cell_kept hB ⟨w.heap.size, 0, none⟩ (.int .i64 f) (by simp); have q1 := cell_kept hB ⟨w.heap.size, 1, none⟩ (.int .i64 c) (by simp); have q2 := cell_kept hB ⟨w.heap.size, 2, none⟩ (.int .i64 t) (by simp); have q3 := cell_kept hB ⟨b, 0, none⟩ (.int .i64 n) h0; have q4 := cell_kept hB ⟨b, 1, none⟩ (.int .i64 s) h1))
    go_wp2
    go_ret2
    exact ⟨rfl, chain (HB.out.drew) hB⟩
end Go.Proofs.YtphjbbbnbmafnaaGreatDoor.G
