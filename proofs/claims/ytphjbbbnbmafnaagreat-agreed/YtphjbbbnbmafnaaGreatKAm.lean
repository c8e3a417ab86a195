/-
  trelliskeep's own among, ahead and width: whether an edge is in a list; whether one is ahead of another; the width; nothing that was there is written.
-/
import Derived.Test.YtphjbbbnbmafnaaGreatEqE
import Derived.Test.YtphjbbbnbmafnaaGreatGMath
namespace Go.Proofs.YtphjbbbnbmafnaaGreat.G
open Go.RowKit

set_option maxHeartbeats 400000 in
theorem kahead_any (f l t f' l' t' : Int) (w : World) :
    Calls Tryz.prog 15 #[.agg #[.int .i64 f, .int .i64 l, .int .i64 t], .agg #[.int .i64 f', .int .i64 l', .int .i64 t']] w fun e w' => e = .returned (.bool (aheadI f l t f' l' t')) ∧ Below w.heap.size w w' := by
  obtain ⟨k0, k1, k2, k3, k4, k5⟩ := two3 w (.int .i64 f) (.int .i64 l) (.int .i64 t) (.int .i64 f') (.int .i64 l') (.int .i64 t') 26
  unfold aheadI
  by_cases h1 : f = f'
  · have n1 : (f != f') = false := by rw [h1]; simp
    rw [if_pos h1]
    by_cases h2 : l = l'
    · have n2 : (l != l') = false := by rw [h2]; simp
      rw [if_pos h2]
      clear h1 h2
      go_enter Tryz.func15, Tryz.ntmps15
      go_wp2
      go_ret
      exact ⟨rfl, below2 _ _ _⟩
    · have n2 : (l != l') = true := by simpa using h2
      rw [if_neg h2]
      clear h1 h2
      go_enter Tryz.func15, Tryz.ntmps15
      go_wp2
      go_ret
      exact ⟨rfl, below2 _ _ _⟩
  · have n1 : (f != f') = true := by simpa using h1
    rw [if_neg h1]
    clear h1
    go_enter Tryz.func15, Tryz.ntmps15
    go_wp2
    go_ret
    exact ⟨rfl, below2 _ _ _⟩

set_option maxHeartbeats 400000 in
theorem kwidth_any (k : Nat) (h1 : 1 ≤ k) (h2 : k ≤ 100000) (w : World) :
    Calls Tryz.prog 16 #[.int .i64 (k : Int)] w fun e w' => e = .returned (.int .i64 (wid (k - 1) : Int)) ∧ w' = w := by
  have hw := wid_le (k - 1) (by omega)
  go_enter Tryz.func16, Tryz.ntmps16
  go_wp2
  go_loop [0, 3] (fun sk sn => ∃ c n : Nat, sk = .int .i64 (c : Int) ∧ sn = .int .i64 (n : Int) ∧ c < k ∧ Hid (n + wid c = wid (k - 1))) (fun sk _ => (intOf sk).toNat)
  case atStart => exact ⟨k - 1, 0, by rw [show ((k - 1 : Nat) : Int) = (k : Int) - 1 by omega], rfl, by omega, (by omega : 0 + wid (k - 1) = wid (k - 1))⟩
  case round =>
    obtain ⟨c, n, rfl, rfl, hc, HI⟩ := hrel
    by_cases h0 : c = 0
    · subst h0
      have he : n = wid (k - 1) := by have := HI.out; simpa [wid] using this
      have HE : Hid _ := he
      clear he HI
      go_wp2
      go_ret
      exact ⟨by rw [← HE.out]; rfl, rfl⟩
    · have hh := wid_half c h0
      have hI := HI.out
      have HN : Hid (n + 1 + wid (c / 2) = wid (k - 1)) := (by omega : _ = _)
      have hn : n ≤ 20 := by omega
      have hc0 : (0 : Int) < (c : Int) := by omega
      clear hh hI HI
      go_wp2
      go_round
      case rel => exact ⟨c / 2, n + 1, by rw [Int.natCast_ediv]; rfl, by go_num, by omega, HN.out⟩
      case measure => simp [intOf]; omega

theorem aheadI_lt (a b : E3) : aheadI a.1 a.2.1 a.2.2 b.1 b.2.1 b.2.2 = Gm.ltE a b := rfl
set_option maxHeartbeats 2000000 in
set_option maxRecDepth 100000 in
theorem among_any (v : Value) (l : List E3) (e : E3) (w : World) (he : EdgesAt w v l) (hl : l.length ≤ 1000000) :
    Calls Tryz.prog 14 #[v, .agg #[.int .i64 e.1, .int .i64 e.2.1, .int .i64 e.2.2]] w fun r w' => r = .returned (.bool (decide (e ∈ l))) ∧ Below w.heap.size w w' := by
  obtain ⟨f, c, t⟩ := e
  have hB := below1 w (.cells #[.int .i64 f, .int .i64 c, .int .i64 t] 26)
  have he2 := EdgesAt.below he hB
  obtain ⟨a0, cap, rfl, hed⟩ := he2
  have HE : Hid _ := hed
  have HB : Hid _ := hB
  have k0 : (w.alloc (.cells #[.int .i64 f, .int .i64 c, .int .i64 t] 26)).cell? ⟨w.heap.size, 0, none⟩ = some (.int .i64 f) := by simp
  have k1 : (w.alloc (.cells #[.int .i64 f, .int .i64 c, .int .i64 t] 26)).cell? ⟨w.heap.size, 1, none⟩ = some (.int .i64 c) := by simp
  have k2 : (w.alloc (.cells #[.int .i64 f, .int .i64 c, .int .i64 t] 26)).cell? ⟨w.heap.size, 2, none⟩ = some (.int .i64 t) := by simp
  clear he hed hB
  go_enter Tryz.func14, Tryz.ntmps14
  go_wp2
  generalize w.alloc (.cells #[.int .i64 f, .int .i64 c, .int .i64 t] 26) = w0 at HE HB k0 k1 k2
  go_loopw [5] (fun si wr => ∃ i q : Nat, i ≤ l.length ∧ si = .int .i64 (i : Int) ∧ wr = w0.drewN q ∧ Hid (∀ x ∈ l.take i, x ≠ (f, c, t))) (fun si _ => l.length - (intOf si).toNat)
  case atStart => exact ⟨0, 0, Nat.zero_le _, rfl, rfl, (fun x hx => by simp at hx : ∀ x ∈ l.take 0, x ≠ (f, c, t))⟩
  case round =>
    obtain ⟨i, q, hil, rfl, rfl, HI⟩ := hrel
    by_cases hlt : i < l.length
    · obtain ⟨x, hx⟩ : ∃ x, l[i]? = some x := ⟨l[i], List.getElem?_eq_getElem hlt⟩
      obtain ⟨g, off, rfl, c0, c1, c2⟩ := HE.out i x hx
      have hiI : (i : Int) < (l.length : Int) := by omega
      obtain ⟨x1, x2, x3⟩ := x
      simp only at c0 c1 c2
      have HX : Hid (l[i]? = some (x1, x2, x3)) := hx
      clear hx
      have gE := guardE
      by_cases hxe : (x1, x2, x3) = (f, c, t)
      · have hEq := eqlE x1 x2 x3 f c t true (decide_eq_true hxe)
        have HM : Hid (decide ((f, c, t) ∈ l) = true) := (decide_eq_true (by rw [← hxe]; exact List.mem_of_getElem? HX.out) : _ = _)
        clear hxe
        go_wp2
        go_quiet (fail)
        go_wp2
        go_ret
        exact ⟨by rw [HM.out]; rfl, below_drewN (below_drewN HB.out _) _⟩
      · have hEq := eqlE x1 x2 x3 f c t false (decide_eq_false hxe)
        have HN : Hid (∀ x ∈ l.take (i + 1), x ≠ (f, c, t)) := (fun x hx => by
          rw [List.take_add_one, HX.out, Option.toList_some] at hx
          rcases List.mem_append.1 hx with h | h
          · exact HI.out x h
          · simp at h; rw [h]; exact hxe : ∀ x ∈ l.take (i + 1), x ≠ (f, c, t))
        clear hxe
        go_wp2
        go_quiet (fail)
        go_wp2
        go_roundw
        case rel => exact ⟨i + 1, _, by omega, by go_num, rfl, HN.out⟩
        case measure => simp [intOf]; omega
    · obtain rfl : i = l.length := by omega
      have HM : Hid (decide ((f, c, t) ∈ l) = false) := (decide_eq_false (fun h => by
        have := HI.out (f, c, t)
        rw [List.take_length] at this
        exact this h rfl) : _ = _)
      go_wp2
      go_ret
      exact ⟨by rw [HM.out]; rfl, below_drewN HB.out _⟩
end Go.Proofs.YtphjbbbnbmafnaaGreat.G
