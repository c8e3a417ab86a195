/-
  The document's own Count over its graph (trellisref.Graph): how many edges are from a node of the first span, with a label of the second, to a node of the third; or ErrRange; nothing that was there is written.
-/
import Derived.Test.YtphjbbbnbmafnaaGreatDoorRefOut
import Derived.Deep.RegionHeld
namespace Go.Proofs.YtphjbbbnbmafnaaGreatDoor.G
open Go.RowKit

set_option maxHeartbeats 400000 in
theorem span_any (x y n : Int) (w : World) :
    Calls Tryz.prog 41 #[.agg #[.int .i64 x, .int .i64 y], .int .i64 n] w fun e w' => e = .returned (.bool (decide (0 ≤ x ∧ x ≤ y ∧ y ≤ n))) ∧ Below w.heap.size w w' := by
  by_cases h1 : 0 ≤ x
  · by_cases h2 : x ≤ y
    · by_cases h3 : y ≤ n
      · have HD : Hid _ := decide_eq_true (show 0 ≤ x ∧ x ≤ y ∧ y ≤ n from ⟨h1, h2, h3⟩)
        rw [HD.out]
        go_enter Tryz.func41, Tryz.ntmps41
        go_wp2
        go_ret
        exact ⟨rfl, below1 _ _⟩
      · have HD : Hid _ := decide_eq_false (show ¬ (0 ≤ x ∧ x ≤ y ∧ y ≤ n) from fun h => h3 h.2.2)
        rw [HD.out]
        go_enter Tryz.func41, Tryz.ntmps41
        go_wp2
        go_ret
        exact ⟨rfl, below1 _ _⟩
    · have HD : Hid _ := decide_eq_false (show ¬ (0 ≤ x ∧ x ≤ y ∧ y ≤ n) from fun h => h2 h.2.1)
      rw [HD.out]
      go_enter Tryz.func41, Tryz.ntmps41
      go_wp2
      go_ret
      exact ⟨rfl, below1 _ _⟩
  · have HD : Hid _ := decide_eq_false (show ¬ (0 ≤ x ∧ x ≤ y ∧ y ≤ n) from fun h => h1 h.1)
    rw [HD.out]
    go_enter Tryz.func41, Tryz.ntmps41
    go_wp2
    go_ret
    exact ⟨rfl, below1 _ _⟩
set_option maxHeartbeats 400000 in
theorem in_any (n x y : Int) (w : World) :
    Calls Tryz.prog 42 #[.int .i64 n, .agg #[.int .i64 x, .int .i64 y]] w fun e w' => e = .returned (.bool (decide (x ≤ n ∧ n < y))) ∧ Below w.heap.size w w' := by
  by_cases h1 : x ≤ n
  · by_cases h2 : n < y
    · have HD : Hid _ := decide_eq_true (show x ≤ n ∧ n < y from ⟨h1, h2⟩)
      rw [HD.out]
      go_enter Tryz.func42, Tryz.ntmps42
      go_wp2
      go_ret
      exact ⟨rfl, below1 _ _⟩
    · have HD : Hid _ := decide_eq_false (show ¬ (x ≤ n ∧ n < y) from fun h => h2 h.2)
      rw [HD.out]
      go_enter Tryz.func42, Tryz.ntmps42
      go_wp2
      go_ret
      exact ⟨rfl, below1 _ _⟩
  · have HD : Hid _ := decide_eq_false (show ¬ (x ≤ n ∧ n < y) from fun h => h1 h.1)
    rw [HD.out]
    go_enter Tryz.func42, Tryz.ntmps42
    go_wp2
    go_ret
    exact ⟨rfl, below1 _ _⟩
/-- three boxes of two cells, one behind the other -/
structure Boxes (w : World) (X : Nat) (a b c d e f : Int) : Prop where
  c0 : w.cell? ⟨X, 0, none⟩ = some (.int .i64 a)
  c1 : w.cell? ⟨X, 1, none⟩ = some (.int .i64 b)
  c2 : w.cell? ⟨X + 1, 0, none⟩ = some (.int .i64 c)
  c3 : w.cell? ⟨X + 1, 1, none⟩ = some (.int .i64 d)
  c4 : w.cell? ⟨X + 1 + 1, 0, none⟩ = some (.int .i64 e)
  c5 : w.cell? ⟨X + 1 + 1, 1, none⟩ = some (.int .i64 f)
theorem Boxes.below {w w' : World} {X : Nat} {a b c d e f : Int} (h : Boxes w X a b c d e f) (hB : Below w.heap.size w w') : Boxes w' X a b c d e f :=
  ⟨cell_kept hB _ _ h.c0, cell_kept hB _ _ h.c1, cell_kept hB _ _ h.c2, cell_kept hB _ _ h.c3, cell_kept hB _ _ h.c4, cell_kept hB _ _ h.c5⟩
theorem boxes_new (w : World) (a b c d e f : Int) (t : TypeId) : Boxes (((w.alloc (.cells #[.int .i64 a, .int .i64 b] t)).alloc (.cells #[.int .i64 c, .int .i64 d] t)).alloc (.cells #[.int .i64 e, .int .i64 f] t)) w.heap.size a b c d e f := by
  have hs1 : (w.alloc (.cells #[.int .i64 a, .int .i64 b] t)).heap.size = w.heap.size + 1 := by simp
  have hs2 : ((w.alloc (.cells #[.int .i64 a, .int .i64 b] t)).alloc (.cells #[.int .i64 c, .int .i64 d] t)).heap.size = w.heap.size + 1 + 1 := by simp
  have n1 : (w.alloc (.cells #[.int .i64 a, .int .i64 b] t)).cell? ⟨w.heap.size, 0, none⟩ = some (.int .i64 a) ∧ (w.alloc (.cells #[.int .i64 a, .int .i64 b] t)).cell? ⟨w.heap.size, 1, none⟩ = some (.int .i64 b) := by constructor <;> simp
  generalize w.alloc (.cells #[.int .i64 a, .int .i64 b] t) = w1 at *
  have n2 : (w1.alloc (.cells #[.int .i64 c, .int .i64 d] t)).cell? ⟨w1.heap.size, 0, none⟩ = some (.int .i64 c) ∧ (w1.alloc (.cells #[.int .i64 c, .int .i64 d] t)).cell? ⟨w1.heap.size, 1, none⟩ = some (.int .i64 d) := by constructor <;> simp
  have hb1 := below1 w1 (.cells #[.int .i64 c, .int .i64 d] t)
  generalize w1.alloc (.cells #[.int .i64 c, .int .i64 d] t) = w2 at *
  have n3 : (w2.alloc (.cells #[.int .i64 e, .int .i64 f] t)).cell? ⟨w2.heap.size, 0, none⟩ = some (.int .i64 e) ∧ (w2.alloc (.cells #[.int .i64 e, .int .i64 f] t)).cell? ⟨w2.heap.size, 1, none⟩ = some (.int .i64 f) := by constructor <;> simp
  have hb2 := below1 w2 (.cells #[.int .i64 e, .int .i64 f] t)
  rw [hs1] at n2
  rw [hs2] at n3
  exact ⟨cell_kept hb2 _ _ (cell_kept hb1 _ _ n1.1), cell_kept hb2 _ _ (cell_kept hb1 _ _ n1.2), cell_kept hb2 _ _ n2.1, cell_kept hb2 _ _ n2.2, n3.1, n3.2⟩
theorem below3 (w : World) (x y z : Obj) : Below w.heap.size w (((w.alloc x).alloc y).alloc z) := (below2 w x y).alloc (by simp; omega) _
/-- how many of the first k edges are within the spans -/
def cntIn (l : List E3) (a b c d e f : Int) (k : Nat) : Nat := ((l.take k).filter (fun x => decide (a ≤ x.1 ∧ x.1 < b) && (decide (c ≤ x.2.1 ∧ x.2.1 < d) && decide (e ≤ x.2.2 ∧ x.2.2 < f)))).length

set_option maxHeartbeats 8000000 in
set_option maxRecDepth 100000 in
theorem count_any {w : World} {g0 : Nat} {n s : Int} {v : Value} {l : List E3} (hg : RGraph w g0 n s v l) (hl : l.length ≤ 1000000) (a b c d e f : Int) (P Q R : Bool) (hP : decide (0 ≤ a ∧ a ≤ b ∧ b ≤ n) = P) (hQ : decide (0 ≤ c ∧ c ≤ d ∧ d ≤ s) = Q) (hR : decide (0 ≤ e ∧ e ≤ f ∧ f ≤ n) = R) :
    Calls Tryz.prog 23 #[.pointer (some ⟨g0, 0, none⟩), .agg #[.int .i64 a, .int .i64 b], .agg #[.int .i64 c, .int .i64 d], .agg #[.int .i64 e, .int .i64 f]] w fun x w' => x = .returned (.tuple #[.int .i64 (if P && (Q && R) then (cntIn l a b c d e f l.length : Int) else 0), .int .i64 (if P && (Q && R) then 0 else 1)]) ∧ Below w.heap.size w w' := by
  have HW1 : Hid (∀ w2, Calls Tryz.prog 41 #[.agg #[.int .i64 a, .int .i64 b], .int .i64 n] w2 fun x w' => x = .returned (.bool P) ∧ Below w2.heap.size w2 w') := fun w2 => by rw [← hP]; exact span_any a b n w2
  have HW2 : Hid (∀ w2, Calls Tryz.prog 41 #[.agg #[.int .i64 c, .int .i64 d], .int .i64 s] w2 fun x w' => x = .returned (.bool Q) ∧ Below w2.heap.size w2 w') := fun w2 => by rw [← hQ]; exact span_any c d s w2
  have HW3 : Hid (∀ w2, Calls Tryz.prog 41 #[.agg #[.int .i64 e, .int .i64 f], .int .i64 n] w2 fun x w' => x = .returned (.bool R) ∧ Below w2.heap.size w2 w') := fun w2 => by rw [← hR]; exact span_any e f n w2
  have hnew := below3 w (.cells #[.int .i64 a, .int .i64 b] 40) (.cells #[.int .i64 c, .int .i64 d] 40) (.cells #[.int .i64 e, .int .i64 f] 40)
  have hbx := boxes_new w a b c d e f 40
  have hg1 := hg.below hnew
  have h0 := hg1.cn
  have h1 := hg1.cs
  obtain ⟨k0, k1, k2, k3, k4, k5⟩ := id hbx
  have HG : Hid (RGraph w g0 n s v l) := hg
  have HB : Hid _ := hnew
  have HX : Hid _ := hbx
  clear hg hg1 hnew hbx hP hQ hR
  go_enter Tryz.func23, Tryz.ntmps23
  go_wp2
  go_region_held (fun w' => w'.cell? ⟨w.heap.size, 0, none⟩ = some (.int .i64 a) ∧ w'.cell? ⟨w.heap.size, 1, none⟩ = some (.int .i64 b) ∧ w'.cell? ⟨g0, 0, none⟩ = some (.int .i64 n)) (go_keep) (first
    | (go_at_call 41; refine (HW1.out _).mono ?_; rintro x w1 ⟨rfl, hB1⟩; have q0 := cell_kept hB1 ⟨w.heap.size, 0, none⟩ (.int .i64 a) k0; have q1 := cell_kept hB1 ⟨w.heap.size, 1, none⟩ (.int .i64 b) k1; have q2 := cell_kept hB1 ⟨g0, 0, none⟩ (.int .i64 n) h0))
  have hx1 := HX.out.below ((Below.refl _ _).drew.trans hB1)
  have hg1 := (HG.out.below HB.out).below ((Below.refl _ _).drew.trans hB1)
  have HT1 : Hid _ := chain (HB.out.drew) hB1
  clear k0 k1 k2 k3 k4 k5 h0 h1 hB1 q0 q1 q2
  obtain ⟨k0, k1, k2, k3, k4, k5⟩ := id hx1
  have h1 := hg1.cs
  have HX1 : Hid _ := hx1
  have HG1 : Hid _ := hg1
  clear hx1 hg1
  go_wp2
  go_region_held (fun w' => w'.cell? ⟨w.heap.size + 1, 0, none⟩ = some (.int .i64 c) ∧ w'.cell? ⟨w.heap.size + 1, 1, none⟩ = some (.int .i64 d) ∧ w'.cell? ⟨g0, 1, none⟩ = some (.int .i64 s)) (go_keep) (first
    | (go_at_call 41; refine (HW2.out _).mono ?_; rintro x w2 ⟨rfl, hB2⟩; have q0 := cell_kept hB2 ⟨w.heap.size + 1, 0, none⟩ (.int .i64 c) k2; have q1 := cell_kept hB2 ⟨w.heap.size + 1, 1, none⟩ (.int .i64 d) k3; have q2 := cell_kept hB2 ⟨g0, 1, none⟩ (.int .i64 s) h1))
  have hx2 := HX1.out.below ((Below.refl _ _).drew.trans hB2)
  have hg2 := HG1.out.below ((Below.refl _ _).drew.trans hB2)
  have HT2 : Hid _ := chain (HT1.out.drew) hB2
  clear k0 k1 k2 k3 k4 k5 h1 hB2 q0 q1 q2
  obtain ⟨k0, k1, k2, k3, k4, k5⟩ := id hx2
  have h0 := hg2.cn
  have HX2 : Hid _ := hx2
  have HG2 : Hid _ := hg2
  clear hx2 hg2
  go_wp2
  go_region_held (fun w' => w'.cell? ⟨w.heap.size + 1 + 1, 0, none⟩ = some (.int .i64 e) ∧ w'.cell? ⟨w.heap.size + 1 + 1, 1, none⟩ = some (.int .i64 f) ∧ w'.cell? ⟨g0, 0, none⟩ = some (.int .i64 n)) (go_keep) (first
    | (go_at_call 41; refine (HW3.out _).mono ?_; rintro x w3 ⟨rfl, hB3⟩; have q0 := cell_kept hB3 ⟨w.heap.size + 1 + 1, 0, none⟩ (.int .i64 e) k4; have q1 := cell_kept hB3 ⟨w.heap.size + 1 + 1, 1, none⟩ (.int .i64 f) k5; have q2 := cell_kept hB3 ⟨g0, 0, none⟩ (.int .i64 n) h0))
  have hx3 := HX2.out.below ((Below.refl _ _).drew.trans hB3)
  have hg3 := HG2.out.below ((Below.refl _ _).drew.trans hB3)
  have HT3 : Hid (Below w.heap.size w w3) := chain (HT2.out.drew) hB3
  have HX3 : Hid (Boxes w3 w.heap.size a b c d e f) := hx3
  have HG3 : Hid (RGraph w3 g0 n s v l) := hg3
  clear k0 k1 k2 k3 k4 k5 h0 hB3 q0 q1 q2 hx3 hg3 HX2 HG2 HX1 HG1 HX HG HB HT1 HT2 HW1 HW2 HW3
  cases P
  · go_wp2
    go_ret2
    exact ⟨rfl, HT3.out⟩
  cases Q
  · go_wp2
    go_ret2
    exact ⟨rfl, HT3.out⟩
  cases R
  · go_wp2
    go_ret2
    exact ⟨rfl, HT3.out⟩
  obtain ⟨a0, cap, hve, hed⟩ := id HG3.out.ed
  subst hve
  have HE : Hid _ := hed
  have hce := HG3.out.ce
  have HCE : Hid _ := hce
  clear hed
  go_wp2
  go_loopw [13, 14] (fun sn si wr => ∃ i m : Nat, i ≤ l.length ∧ si = .int .i64 (i : Int) ∧ sn = .int .i64 (m : Int) ∧ m ≤ i ∧ Hid (m = cntIn l a b c d e f i) ∧ Below w3.heap.size w3 wr) (fun _ si _ => l.length - (intOf si).toNat)
  case atStart => exact ⟨0, 0, Nat.zero_le _, rfl, rfl, Nat.le_refl _, (by simp [cntIn] : 0 = cntIn l a b c d e f 0), Below.refl _ _⟩
  case round =>
    clear hce
    obtain ⟨i, m, hil, rfl, rfl, hmi, HM, hbel⟩ := hrel
    have hce := cell_kept hbel _ _ HCE.out
    by_cases hlt : i < l.length
    · obtain ⟨x, hx⟩ : ∃ x, l[i]? = some x := ⟨l[i], List.getElem?_eq_getElem hlt⟩
      obtain ⟨gg, off, rfl, c0, c1, c2⟩ := HE.out i x hx
      have hiI : (i : Int) < (l.length : Int) := by omega
      have hN : cntIn l a b c d e f (i + 1) = m + (decide (a ≤ x.1 ∧ x.1 < b) && (decide (c ≤ x.2.1 ∧ x.2.1 < d) && decide (e ≤ x.2.2 ∧ x.2.2 < f))).toNat := by
        rw [HM.out]
        unfold cntIn
        rw [take_filter hx, List.length_append]
        congr 1
        cases (decide (a ≤ x.1 ∧ x.1 < b) && (decide (c ≤ x.2.1 ∧ x.2.1 < d) && decide (e ≤ x.2.2 ∧ x.2.2 < f))) <;> rfl
      obtain ⟨x1, x2, x3⟩ := x
      simp only at c0 c1 c2 hN
      have HI0 : Hid (∀ w2, Calls Tryz.prog 42 _ w2 _) := fun w2 => in_any x1 a b w2
      have HI1 : Hid (∀ w2, Calls Tryz.prog 42 _ w2 _) := fun w2 => in_any x2 c d w2
      have HI2 : Hid (∀ w2, Calls Tryz.prog 42 _ w2 _) := fun w2 => in_any x3 e f w2
      generalize decide (a ≤ x1 ∧ x1 < b) = X at hN HI0
      generalize decide (c ≤ x2 ∧ x2 < d) = Y at hN HI1
      generalize decide (e ≤ x3 ∧ x3 < f) = Z at hN HI2
      have HN : Hid _ := hN
      have d0 := cell_kept hbel _ _ c0
      have d1 := cell_kept hbel _ _ c1
      have d2 := cell_kept hbel _ _ c2
      have hxx := HX3.out.below hbel
      obtain ⟨k0, k1, k2, k3, k4, k5⟩ := id hxx
      have HXX : Hid _ := hxx
      have HTT : Hid (Below w3.heap.size w3 wr) := hbel
      clear hN c0 c1 c2 hx hxx hbel HM
      go_wp2
      go_region_held (fun w' => w'.cell? ⟨g0, 2, none⟩ = some (.slice (some ⟨gg, off, none⟩) l.length cap) ∧ w'.cell? ⟨gg, off + i * 3, none⟩ = some (.int .i64 x1) ∧ w'.cell? ⟨w.heap.size, 0, none⟩ = some (.int .i64 a) ∧ w'.cell? ⟨w.heap.size, 1, none⟩ = some (.int .i64 b)) (go_keep) (first
        | (go_at_call 42; refine (HI0.out _).mono ?_; rintro x wa0 ⟨rfl, hA⟩; have q0 := cell_kept hA ⟨g0, 2, none⟩ (.slice (some ⟨gg, off, none⟩) l.length cap) hce; have q1 := cell_kept hA ⟨gg, off + i * 3, none⟩ (.int .i64 x1) d0; have q2 := cell_kept hA ⟨w.heap.size, 0, none⟩ (.int .i64 a) k0; have q3 := cell_kept hA ⟨w.heap.size, 1, none⟩ (.int .i64 b) k1))
      have hx0 := HXX.out.below ((Below.refl _ _).drew.trans hA)
      have HT0 : Hid _ := HTT.out.trans (((Below.refl _ _).drew.trans hA).mono HTT.out.size)
      have d0' := cell_kept ((Below.refl _ _).drew.trans hA) _ _ d0
      have d1' := cell_kept ((Below.refl _ _).drew.trans hA) _ _ d1
      have d2' := cell_kept ((Below.refl _ _).drew.trans hA) _ _ d2
      have hce' := cell_kept ((Below.refl _ _).drew.trans hA) _ _ hce
      clear k0 k1 k2 k3 k4 k5 d0 d1 d2 hce hA q0 q1 q2 q3 HXX HTT
      obtain ⟨k0, k1, k2, k3, k4, k5⟩ := id hx0
      have HXX : Hid _ := hx0
      have HTT : Hid (Below w3.heap.size w3 wa0) := HT0.out
      have d0 := d0'
      have d1 := d1'
      have d2 := d2'
      have hce := hce'
      clear hx0 HT0 d0' d1' d2' hce'
      go_wp2
      go_region_held (fun w' => w'.cell? ⟨g0, 2, none⟩ = some (.slice (some ⟨gg, off, none⟩) l.length cap) ∧ w'.cell? ⟨gg, off + i * 3 + 1, none⟩ = some (.int .i64 x2) ∧ w'.cell? ⟨w.heap.size + 1, 0, none⟩ = some (.int .i64 c) ∧ w'.cell? ⟨w.heap.size + 1, 1, none⟩ = some (.int .i64 d)) (go_keep) (first
        | (go_at_call 42; refine (HI1.out _).mono ?_; rintro x wa1 ⟨rfl, hA⟩; have q0 := cell_kept hA ⟨g0, 2, none⟩ (.slice (some ⟨gg, off, none⟩) l.length cap) hce; have q1 := cell_kept hA ⟨gg, off + i * 3 + 1, none⟩ (.int .i64 x2) d1; have q2 := cell_kept hA ⟨w.heap.size + 1, 0, none⟩ (.int .i64 c) k2; have q3 := cell_kept hA ⟨w.heap.size + 1, 1, none⟩ (.int .i64 d) k3))
      have hx1 := HXX.out.below ((Below.refl _ _).drew.trans hA)
      have HT1 : Hid _ := HTT.out.trans (((Below.refl _ _).drew.trans hA).mono HTT.out.size)
      have d0' := cell_kept ((Below.refl _ _).drew.trans hA) _ _ d0
      have d1' := cell_kept ((Below.refl _ _).drew.trans hA) _ _ d1
      have d2' := cell_kept ((Below.refl _ _).drew.trans hA) _ _ d2
      have hce' := cell_kept ((Below.refl _ _).drew.trans hA) _ _ hce
      clear k0 k1 k2 k3 k4 k5 d0 d1 d2 hce hA q0 q1 q2 q3 HXX HTT
      obtain ⟨k0, k1, k2, k3, k4, k5⟩ := id hx1
      have HXX : Hid _ := hx1
      have HTT : Hid (Below w3.heap.size w3 wa1) := HT1.out
      have d0 := d0'
      have d1 := d1'
      have d2 := d2'
      have hce := hce'
      clear hx1 HT1 d0' d1' d2' hce'
      go_wp2
      go_region_held (fun w' => w'.cell? ⟨g0, 2, none⟩ = some (.slice (some ⟨gg, off, none⟩) l.length cap) ∧ w'.cell? ⟨gg, off + i * 3 + 2, none⟩ = some (.int .i64 x3) ∧ w'.cell? ⟨w.heap.size + 1 + 1, 0, none⟩ = some (.int .i64 e) ∧ w'.cell? ⟨w.heap.size + 1 + 1, 1, none⟩ = some (.int .i64 f)) (go_keep) (first
        | (go_at_call 42; refine (HI2.out _).mono ?_; rintro x wa2 ⟨rfl, hA⟩; have q0 := cell_kept hA ⟨g0, 2, none⟩ (.slice (some ⟨gg, off, none⟩) l.length cap) hce; have q1 := cell_kept hA ⟨gg, off + i * 3 + 2, none⟩ (.int .i64 x3) d2; have q2 := cell_kept hA ⟨w.heap.size + 1 + 1, 0, none⟩ (.int .i64 e) k4; have q3 := cell_kept hA ⟨w.heap.size + 1 + 1, 1, none⟩ (.int .i64 f) k5))
      have hx2 := HXX.out.below ((Below.refl _ _).drew.trans hA)
      have HT2 : Hid _ := HTT.out.trans (((Below.refl _ _).drew.trans hA).mono HTT.out.size)
      have d0' := cell_kept ((Below.refl _ _).drew.trans hA) _ _ d0
      have d1' := cell_kept ((Below.refl _ _).drew.trans hA) _ _ d1
      have d2' := cell_kept ((Below.refl _ _).drew.trans hA) _ _ d2
      have hce' := cell_kept ((Below.refl _ _).drew.trans hA) _ _ hce
      clear k0 k1 k2 k3 k4 k5 d0 d1 d2 hce hA q0 q1 q2 q3 HXX HTT
      obtain ⟨k0, k1, k2, k3, k4, k5⟩ := id hx2
      have HXX : Hid _ := hx2
      have HTT : Hid (Below w3.heap.size w3 wa2) := HT2.out
      have d0 := d0'
      have d1 := d1'
      have d2 := d2'
      have hce := hce'
      clear hx2 HT2 d0' d1' d2' hce'
      cases X <;> cases Y <;> cases Z
      all_goals
        have hN := HN.out
        simp at hN
        have HN2 : Hid _ := hN.symm
        clear hN HN
        go_wp2
        go_roundw
        case rel => first | exact ⟨i + 1, m, by omega, by go_num, rfl, by omega, HN2.out, HTT.out⟩ | exact ⟨i + 1, m + 1, by omega, by go_num, by go_num, by omega, HN2.out, HTT.out⟩
        case measure => simp [intOf]; omega
    · obtain rfl : i = l.length := by omega
      go_wp2
      go_ret2
      exact ⟨by rw [← HM.out]; rfl, chain HT3.out hbel⟩
end Go.Proofs.YtphjbbbnbmafnaaGreatDoor.G
