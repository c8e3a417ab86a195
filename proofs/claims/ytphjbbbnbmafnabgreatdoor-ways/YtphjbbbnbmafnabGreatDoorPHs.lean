/-
  How many edges there are within spans (Graph.count, Count where all three are spans), and whether there is an edge (Has, where it is within the size): what they answer; new memory; nothing that was there is written.
  Count where all three are spans, and Has where the edge is within the size: what they answer; new memory; nothing that was there is written.
-/
import Derived.Test.YtphjbbbnbmafnabGreatDoorPTg
namespace Go.Proofs.YtphjbbbnbmafnabGreatDoor.G
open Go.RowKit

attribute [local go_sem ↓] Go.wp_at_zero Go.wp_at_succ
set_option maxHeartbeats 1000000 in
theorem splen_any (p q : Nat) (hpq : p ≤ q) (hq : q ≤ 1000000) (w : World) : Calls Tryz.prog 117 #[.agg #[.int .i64 (p : Int), .int .i64 (q : Int)]] w fun e w' => e = .returned (.int .i64 ((q - p : Nat) : Int)) ∧ Below w.heap.size w w' := by
  go_enter Tryz.func117, Tryz.ntmps117
  go_wp2
  go_ret
  exact ⟨by go_num, below1 _ _⟩
theorem two_le (L : List E3) (f g : E3 → Bool) (h : ∀ e ∈ L, ¬ (f e = true ∧ g e = true)) : (L.filter f).length + (L.filter g).length ≤ L.length := by
  induction L with
  | nil => simp
  | cons a L ih =>
    have h1 := ih fun e he => h e (by simp [he])
    have h2 := h a (by simp)
    simp only [List.filter_cons, List.length_cons]
    cases hf : f a <;> cases hg : g a <;> simp_all <;> omega
theorem lab_room (L : List E3) (h0 : Lab0 L) (c i : Nat) (hi : i ≤ L.length) : bel (labs L) 0 L.length c + cnt (eqf (labs L) c) i ≤ L.length := by
  have hll : (labs L).length = L.length := by simp [labs]
  have h1 := bel_labs L h0 c
  rw [hll] at h1
  rw [h1, cnt_labs L h0 c i hi]
  have h2 : ((L.take i).filter (fun e => decide (e.2.1 = (c : Int)))).length ≤ (L.filter (fun e => decide (e.2.1 = (c : Int)))).length := (List.Sublist.filter _ (List.take_sublist i L)).length_le
  have h3 := two_le L (fun e => decide (e.2.1 < (c : Int))) (fun e => decide (e.2.1 = (c : Int))) (fun e _ => by simp only [decide_eq_true_eq]; omega)
  omega
theorem three_spans (w : World) (a b c d e f : Value) (t : TypeId) : (((w.alloc (.cells #[a, b] t)).alloc (.cells #[c, d] t)).alloc (.cells #[e, f] t)).cell? ⟨w.heap.size, 0, none⟩ = some a ∧ (((w.alloc (.cells #[a, b] t)).alloc (.cells #[c, d] t)).alloc (.cells #[e, f] t)).cell? ⟨w.heap.size, 1, none⟩ = some b ∧ (((w.alloc (.cells #[a, b] t)).alloc (.cells #[c, d] t)).alloc (.cells #[e, f] t)).cell? ⟨w.heap.size + 1, 0, none⟩ = some c ∧ (((w.alloc (.cells #[a, b] t)).alloc (.cells #[c, d] t)).alloc (.cells #[e, f] t)).cell? ⟨w.heap.size + 1, 1, none⟩ = some d ∧ (((w.alloc (.cells #[a, b] t)).alloc (.cells #[c, d] t)).alloc (.cells #[e, f] t)).cell? ⟨w.heap.size + 1 + 1, 0, none⟩ = some e ∧ (((w.alloc (.cells #[a, b] t)).alloc (.cells #[c, d] t)).alloc (.cells #[e, f] t)).cell? ⟨w.heap.size + 1 + 1, 1, none⟩ = some f := by
  obtain ⟨k0, k1, k2, k3, _, _⟩ := two_spans w a b c d t
  have hb := below1 ((w.alloc (.cells #[a, b] t)).alloc (.cells #[c, d] t)) (.cells #[e, f] t)
  have h := box2 ((w.alloc (.cells #[a, b] t)).alloc (.cells #[c, d] t)) e f t
  rw [World.size_alloc, World.size_alloc] at h
  exact ⟨cell_kept hb _ _ k0, cell_kept hb _ _ k1, cell_kept hb _ _ k2, cell_kept hb _ _ k3, h.1, h.2⟩
set_option maxHeartbeats 8000000 in
set_option maxRecDepth 100000 in
theorem gcount_any {w : World} {b n s : Nat} {L : List E3} (h : GraphAt w b n s L) (f1 f2 l1 l2 t1 t2 : Nat) (hf : f1 ≤ f2 ∧ f2 ≤ n) (hl : l1 ≤ l2 ∧ l2 ≤ s) (ht : t1 ≤ t2 ∧ t2 ≤ n) :
    Calls Tryz.prog 97 #[.pointer (some ⟨b, 0, none⟩), .agg #[.int .i64 (f1 : Int), .int .i64 (f2 : Int)], .agg #[.int .i64 (l1 : Int), .int .i64 (l2 : Int)], .agg #[.int .i64 (t1 : Int), .int .i64 (t2 : Int)]] w fun e w' => e = .returned (.int .i64 ((L.filter (inB f1 f2 l1 l2 t1 t2)).length : Int)) ∧ Below w.heap.size w w' := by
  have hbd := h.bd
  obtain ⟨W0, hW0⟩ : ∃ W0, W0 = ((w.alloc (.cells #[.int .i64 (f1 : Int), .int .i64 (f2 : Int)] 133)).alloc (.cells #[.int .i64 (l1 : Int), .int .i64 (l2 : Int)] 133)).alloc (.cells #[.int .i64 (t1 : Int), .int .i64 (t2 : Int)] 133) := ⟨_, rfl⟩
  have hJ : Below w.heap.size w W0 := by rw [hW0]; exact bel_al (bel_al (below1 _ _))
  obtain ⟨k0, k1, k2, k3, k4, k5⟩ := three_spans w (.int .i64 (f1 : Int)) (.int .i64 (f2 : Int)) (.int .i64 (l1 : Int)) (.int .i64 (l2 : Int)) (.int .i64 (t1 : Int)) (.int .i64 (t2 : Int)) 133
  rw [← hW0] at k0 k1 k2 k3 k4 k5
  have HE : Hid (Calls Tryz.prog 95 _ W0 _) := ends_ahead (h.below hJ) f1 f2
  obtain ⟨R, bt, gt, c5w, h16, hperm, hs2⟩ := h.tgt
  have hRl : (tos R).length = L.length := by unfold tos; rw [List.length_map]; exact hperm.length_eq
  have hx1 := Gm.ah_le L f1
  have hy1 := Gm.ah_le L f2
  have hLl : (labs L).length = L.length := by unfold labs; rw [List.length_map]
  have HCL : Hid (∀ c, bel (tos R) (bel (labs L) 0 L.length c + cnt (eqf (labs L) c) (Gm.ah L f1)) (bel (labs L) 0 L.length c + cnt (eqf (labs L) c) (Gm.ah L f2)) t2
      = bel (tos R) (bel (labs L) 0 L.length c + cnt (eqf (labs L) c) (Gm.ah L f1)) (bel (labs L) 0 L.length c + cnt (eqf (labs L) c) (Gm.ah L f2)) t1 + (L.filter (inB f1 f2 c (c + 1) t1 t2)).length) := (fun c => by
    have e := count_label h.st hperm hs2 h.lab0 f1 f2 c t1 t2 hf.1 ht.1
    rw [hLl] at e
    exact e : ∀ c, _)
  have hmono := Gm.ah_mono L hf.1
  generalize Gm.ah L f1 = X at HE hx1 HCL hmono
  generalize Gm.ah L f2 = Y at HE hy1 HCL hmono
  have HRm : Hid (∀ c i, i ≤ L.length → bel (labs L) 0 L.length c + cnt (eqf (labs L) c) i ≤ L.length) := (lab_room L h.lab0 : ∀ c i, _)
  have HG : Hid _ := h.below hJ
  have H16 : Hid _ := h16.below hJ
  have HJ : Hid _ := hJ
  have HRl : Hid _ := hRl
  have c5 := cell_kept hJ _ _ c5w
  have hT2 : t2 ≤ 10000 := by omega
  clear h h16 hperm hs2 hJ hLl hRl c5w
  go_enter Tryz.func97, Tryz.ntmps97
  go_wp2_with fail
  rw [← hW0]
  have HW0 : Hid _ := hW0
  clear hW0
  refine (Calls.mono HE.out ?_)
  rintro e w1 ⟨rfl, hB1⟩
  obtain ⟨W2, hW2⟩ : ∃ W2, W2 = w1.alloc (.cells #[.int .i64 (X : Int), .int .i64 (Y : Int)] 133) := ⟨_, rfl⟩
  have hB2 : Below W0.heap.size W0 W2 := by rw [hW2]; exact bel_al hB1
  have hbx := box2 w1 (.int .i64 (X : Int)) (.int .i64 (Y : Int)) 133
  rw [← hW2] at hbx
  obtain ⟨x0, x1⟩ := hbx
  have y2 := cell_kept hB2 _ _ k2
  have y3 := cell_kept hB2 _ _ k3
  have y4 := cell_kept hB2 _ _ k4
  have y5 := cell_kept hB2 _ _ k5
  have yc := cell_kept hB2 _ _ c5
  have HB2 : Hid _ := hB2
  clear k0 k1 k2 k3 k4 k5 c5 hB1 hB2
  have v0 := hW2 ▸ y2
  go_wp2
  rw [← hW2]
  have HW2 : Hid _ := hW2
  clear hW2 v0
  go_loopw [9, 11] (fun sc sl wr => ∃ c : Nat, l1 ≤ c ∧ c ≤ l2 ∧ sc = .int .i64 ((L.filter (inB f1 f2 l1 c t1 t2)).length : Int) ∧ sl = .int .i64 (c : Int) ∧ Hid (Below W2.heap.size W2 wr)) (fun _ sl _ => l2 - (intOf sl).toNat)
  case atStart => exact ⟨l1, Nat.le_refl _, hl.1, by rw [count_none]; rfl, rfl, Below.refl _ _⟩
  case round =>
    obtain ⟨c, hc1, hc2, rfl, rfl, HI⟩ := hrel
    have hN : (L.filter (inB f1 f2 l1 c t1 t2)).length ≤ 20000 := Nat.le_trans (List.length_filter_le _ _) hbd.2.2.2.2
    have z3 := cell_kept HI.out _ _ y3
    by_cases hlt : c < l2
    · have hcI : (c : Int) < (l2 : Int) := by omega
      have x0r := cell_kept HI.out _ _ x0
      have x1r := cell_kept HI.out _ _ x1
      have hu8 : IntKind.u8.wrap (c : Int) = (c : Int) := by
        have : c < 256 := by omega
        rw [IntKind.wrap_u8]
        omega
      have HT : Hid (Calls Tryz.prog 116 _ wr _) := targets_any ((HG.out.below HB2.out).below HI.out) X Y c hx1 hy1 (by omega)
      have HSt : Hid ((L.filter (inB f1 f2 l1 (c + 1 : Nat) t1 t2)).length = (L.filter (inB f1 f2 l1 c t1 t2)).length + (L.filter (inB f1 f2 c (c + 1) t1 t2)).length) := (count_step L f1 f2 t1 t2 l1 c hc1 : _ = _)
      have hCL := HCL.out c
      have hP1 := HRm.out c X hx1
      have hP2 := HRm.out c Y hy1
      have hPQ : bel (labs L) 0 L.length c + cnt (eqf (labs L) c) X ≤ bel (labs L) 0 L.length c + cnt (eqf (labs L) c) Y := Nat.add_le_add_left (cnt_mono _ hmono) _
      generalize bel (labs L) 0 L.length c + cnt (eqf (labs L) c) X = P at HT hCL hP1 hPQ
      generalize bel (labs L) 0 L.length c + cnt (eqf (labs L) c) Y = Q at HT hCL hP2 hPQ
      have hbl := bel_le (tos R) P Q t2
      rw [HRl.out] at hbl
      have HSp : Hid (∀ W, SeqAt 16 W bt gt (tos R) → Calls Tryz.prog 118 #[S16.belowV bt, .agg #[.int .i64 (P : Int), .int .i64 (Q : Int)], .agg #[.int .i64 (t1 : Int), .int .i64 (t2 : Int)]] W _) := fun W h => S16.spansort_any h P Q hPQ (by rw [HRl.out]; exact hP2) t1 t2 (by omega) (by omega)
      generalize bel (tos R) P Q t1 = A at HSp hCL
      generalize bel (tos R) P Q t2 = B at HSp hCL hbl
      have HLn : Hid (∀ W, Calls Tryz.prog 117 #[.agg #[.int .i64 (A : Int), .int .i64 (B : Int)]] W _) := fun W => splen_any A B (by omega) (by omega) W
      obtain ⟨N, hNe⟩ : ∃ N, N = (L.filter (inB f1 f2 l1 c t1 t2)).length := ⟨_, rfl⟩
      rw [← hNe] at hN HSt
      rw [← hNe]
      have HCm : Hid (B - A = (L.filter (inB f1 f2 c (c + 1) t1 t2)).length) := (by omega : _ = _)
      clear hCL hNe
      go_wp2_with fail
      refine (Calls.mono HT.out ?_)
      rintro e w3 ⟨rfl, hB3⟩
      obtain ⟨W4, hW4⟩ : ∃ W4, W4 = w3.alloc (.cells #[.int .i64 (P : Int), .int .i64 (Q : Int)] 133) := ⟨_, rfl⟩
      have hB4 : Below W2.heap.size W2 W4 := by rw [hW4]; exact bel_al (chain HI.out hB3)
      have hbx4 := box2 w3 (.int .i64 (P : Int)) (.int .i64 (Q : Int)) 133
      rw [← hW4] at hbx4
      obtain ⟨u0, u1⟩ := hbx4
      have u4 := cell_kept hB4 _ _ y4
      have u5 := cell_kept hB4 _ _ y5
      have uc := cell_kept hB4 _ _ yc
      have HB4 : Hid _ := hB4
      clear hB3 hB4 HT x0r x1r z3 hu8
      have HS4 : Hid _ := (H16.out.below HB2.out).below HB4.out
      go_wp2_with fail
      rw [← hW4]
      have HW4 : Hid _ := hW4
      clear hW4
      go_region_held3 (fun w' => w'.cell? ⟨b, 5, none⟩ = some (.pointer (some ⟨bt, 0, none⟩)) ∧ w'.cell? ⟨w3.heap.size, 0, none⟩ = some (.int .i64 (P : Int)) ∧ w'.cell? ⟨w3.heap.size, 1, none⟩ = some (.int .i64 (Q : Int)) ∧ w'.cell? ⟨w.heap.size + 1 + 1, 0, none⟩ = some (.int .i64 (t1 : Int)) ∧ w'.cell? ⟨w.heap.size + 1 + 1, 1, none⟩ = some (.int .i64 (t2 : Int)))
        (first | (refine ⟨?_, ?_, ?_, ?_, ?_⟩ <;> assumption) | (go_keep; done))
        (first
          | (go_at_call 118; refine (HSp.out _ ?_).mono ?_; exact (HS4.out.kept (fun _ _ h => h)); rintro r w5 ⟨rfl, hB5d⟩; have hB5 := ((Below.refl W4.heap.size W4).drew).trans hB5d; have q1 := cell_kept hB5 _ _ uc; have q2 := cell_kept hB5 _ _ u0; have q3 := cell_kept hB5 _ _ u1; have q4 := cell_kept hB5 _ _ u4; have q5 := cell_kept hB5 _ _ u5)
          | (go_at_call 117; refine (HLn.out _).mono ?_; rintro r w6 ⟨rfl, hB6⟩; have q6 := cell_kept hB6 _ _ q1; have q7 := cell_kept hB6 _ _ q2; have q8 := cell_kept hB6 _ _ q3; have q9 := cell_kept hB6 _ _ q4; have q0 := cell_kept hB6 _ _ q5))
      have HB6 : Hid _ := chain (chain HB4.out hB5) hB6
      have hBA : B - A ≤ 20000 := by omega
      generalize B - A = D at hBA HCm
      clear hB5 hB6 hB5d q1 q2 q3 q4 q5 q6 q7 q8 q9 q0 u0 u1 u4 u5 uc HSp HLn
      go_wp2
      go_roundw
      case rel => exact ⟨c + 1, by omega, by omega, by rw [HSt.out, ← HCm.out, show IntKind.i64.wrap ((N : Int) + (D : Int)) = ((N + D : Nat) : Int) from by rw [IntKind.wrap_i64]; omega], by go_num, HB6.out⟩
      case measure => simp [intOf]; omega
    · obtain rfl : c = l2 := by omega
      have HB : Hid _ := chain (chain HJ.out HB2.out) HI.out
      clear HI
      go_wp2
      go_ret
      exact ⟨rfl, HB.out⟩
end Go.Proofs.YtphjbbbnbmafnabGreatDoor.G

namespace Go.Proofs.YtphjbbbnbmafnabGreatDoor.G
open Go.RowKit

attribute [local go_sem ↓] Go.wp_at_zero Go.wp_at_succ
set_option maxHeartbeats 8000000 in
set_option maxRecDepth 100000 in
theorem gcountq_yes {w : World} {b n s : Nat} {L : List E3} (h : GraphAt w b n s L) (f1 f2 l1 l2 t1 t2 : Nat) (hf : f1 ≤ f2 ∧ f2 ≤ n) (hl : l1 ≤ l2 ∧ l2 ≤ s) (ht : t1 ≤ t2 ∧ t2 ≤ n) :
    Calls Tryz.prog 63 #[.pointer (some ⟨b, 0, none⟩), .agg #[.int .i64 (f1 : Int), .int .i64 (f2 : Int)], .agg #[.int .i64 (l1 : Int), .int .i64 (l2 : Int)], .agg #[.int .i64 (t1 : Int), .int .i64 (t2 : Int)]] w fun e w' => e = .returned (.tuple #[.int .i64 ((L.filter (inB f1 f2 l1 l2 t1 t2)).length : Int), .int .i64 0]) ∧ Below w.heap.size w w' := by
  obtain ⟨W0, hW0⟩ : ∃ W0, W0 = ((w.alloc (.cells #[.int .i64 (f1 : Int), .int .i64 (f2 : Int)] 133)).alloc (.cells #[.int .i64 (l1 : Int), .int .i64 (l2 : Int)] 133)).alloc (.cells #[.int .i64 (t1 : Int), .int .i64 (t2 : Int)] 133) := ⟨_, rfl⟩
  have hJ : Below w.heap.size w W0 := by rw [hW0]; exact bel_al (bel_al (below1 _ _))
  obtain ⟨k0, k1, k2, k3, k4, k5⟩ := three_spans w (.int .i64 (f1 : Int)) (.int .i64 (f2 : Int)) (.int .i64 (l1 : Int)) (.int .i64 (l2 : Int)) (.int .i64 (t1 : Int)) (.int .i64 (t2 : Int)) 133
  rw [← hW0] at k0 k1 k2 k3 k4 k5
  have hg := h.below hJ
  have kn := hg.sz0
  have ks := hg.sz1
  have HG : Hid _ := hg
  have HJ : Hid _ := hJ
  have HC : Hid (∀ W, GraphAt W b n s L → Calls Tryz.prog 97 #[.pointer (some ⟨b, 0, none⟩), .agg #[.int .i64 (f1 : Int), .int .i64 (f2 : Int)], .agg #[.int .i64 (l1 : Int), .int .i64 (l2 : Int)], .agg #[.int .i64 (t1 : Int), .int .i64 (t2 : Int)]] W _) := fun W h => gcount_any h f1 f2 l1 l2 t1 t2 hf hl ht
  have HS1 : Hid (∀ W, Calls Tryz.prog 93 _ W _) := fun W => isSpan_any (f1 : Int) (f2 : Int) (n : Int) W
  rw [decide_eq_true (by omega : 0 ≤ (f1 : Int) ∧ (f1 : Int) ≤ (f2 : Int) ∧ (f2 : Int) ≤ (n : Int))] at HS1
  have HS2 : Hid (∀ W, Calls Tryz.prog 93 _ W _) := fun W => isSpan_any (l1 : Int) (l2 : Int) (s : Int) W
  rw [decide_eq_true (by omega : 0 ≤ (l1 : Int) ∧ (l1 : Int) ≤ (l2 : Int) ∧ (l2 : Int) ≤ (s : Int))] at HS2
  have HS3 : Hid (∀ W, Calls Tryz.prog 93 _ W _) := fun W => isSpan_any (t1 : Int) (t2 : Int) (n : Int) W
  rw [decide_eq_true (by omega : 0 ≤ (t1 : Int) ∧ (t1 : Int) ≤ (t2 : Int) ∧ (t2 : Int) ≤ (n : Int))] at HS3
  generalize (L.filter (inB f1 f2 l1 l2 t1 t2)).length = N at HC ⊢
  clear h hg hJ hf hl ht
  go_enter Tryz.func63, Tryz.ntmps63
  go_wp2_with fail
  rw [← hW0]
  have HW0 : Hid _ := hW0
  clear hW0
  go_region_held3 (fun w' => w'.cell? ⟨w.heap.size, 0, none⟩ = some (.int .i64 (f1 : Int)) ∧ w'.cell? ⟨w.heap.size, 1, none⟩ = some (.int .i64 (f2 : Int)) ∧ w'.cell? ⟨w.heap.size + 1, 0, none⟩ = some (.int .i64 (l1 : Int)) ∧ w'.cell? ⟨w.heap.size + 1, 1, none⟩ = some (.int .i64 (l2 : Int)) ∧ w'.cell? ⟨w.heap.size + 1 + 1, 0, none⟩ = some (.int .i64 (t1 : Int)) ∧ w'.cell? ⟨w.heap.size + 1 + 1, 1, none⟩ = some (.int .i64 (t2 : Int)) ∧ w'.cell? ⟨b, 0, none⟩ = some (.int .i64 (n : Int)) ∧ w'.cell? ⟨b, 1, none⟩ = some (.int .i64 (s : Int)))
    (first | (refine ⟨?_, ?_, ?_, ?_, ?_, ?_, ?_, ?_⟩ <;> assumption) | (go_keep; done))
    (first
      | (go_at_call_of 93 (Value.agg #[Value.int IntKind.i64 (f1 : Int), Value.int IntKind.i64 (f2 : Int)]); refine (HS1.out _).mono ?_; rintro r w1 ⟨rfl, hB1d⟩; have hB1 := ((Below.refl W0.heap.size W0).drew).trans hB1d; clear hB1d; have q0 := cell_kept hB1 _ _ k0; have q1 := cell_kept hB1 _ _ k1; have q2 := cell_kept hB1 _ _ k2; have q3 := cell_kept hB1 _ _ k3; have q4 := cell_kept hB1 _ _ k4; have q5 := cell_kept hB1 _ _ k5; have q6 := cell_kept hB1 _ _ kn; have q7 := cell_kept hB1 _ _ ks)
      | (go_at_call_of 93 (Value.agg #[Value.int IntKind.i64 (l1 : Int), Value.int IntKind.i64 (l2 : Int)]); refine (HS2.out _).mono ?_; rintro r w2 ⟨rfl, hB2d⟩; have hB2 := chain hB1 hB2d; clear hB2d; have r0 := cell_kept hB2 _ _ k0; have r1 := cell_kept hB2 _ _ k1; have r2 := cell_kept hB2 _ _ k2; have r3 := cell_kept hB2 _ _ k3; have r4 := cell_kept hB2 _ _ k4; have r5 := cell_kept hB2 _ _ k5; have r6 := cell_kept hB2 _ _ kn; have r7 := cell_kept hB2 _ _ ks)
      | (go_at_call_of 93 (Value.agg #[Value.int IntKind.i64 (t1 : Int), Value.int IntKind.i64 (t2 : Int)]); refine (HS3.out _).mono ?_; rintro r w3 ⟨rfl, hB3d⟩; have hB3 := chain hB2 hB3d; clear hB3d; have s0 := cell_kept hB3 _ _ k0; have s1 := cell_kept hB3 _ _ k1; have s2 := cell_kept hB3 _ _ k2; have s3 := cell_kept hB3 _ _ k3; have s4 := cell_kept hB3 _ _ k4; have s5 := cell_kept hB3 _ _ k5; have s6 := cell_kept hB3 _ _ kn; have s7 := cell_kept hB3 _ _ ks))
  have HB3 : Hid _ := hB3
  clear hB1 hB2 hB3 q0 q1 q2 q3 q4 q5 q6 q7 r0 r1 r2 r3 r4 r5 r6 r7 k0 k1 k2 k3 k4 k5 kn ks HS1 HS2 HS3
  go_wp2_with fail
  refine (Calls.mono (HC.out w3 (HG.out.below HB3.out)) ?_)
  rintro e w4 ⟨rfl, hB4⟩
  have HB4 : Hid _ := chain HJ.out (chain HB3.out hB4)
  clear hB4 HC
  go_wp2
  go_ret2
  exact ⟨rfl, HB4.out⟩
/-- just one edge lies within the spans of one number each -/
theorem one_len (L : List E3) (hst : Gm.Strict L) (e : E3) : (L.filter (inB e.1 (e.1 + 1) e.2.1 (e.2.1 + 1) e.2.2 (e.2.2 + 1))).length = if e ∈ L then 1 else 0 := by
  have hp : ∀ x : E3, inB e.1 (e.1 + 1) e.2.1 (e.2.1 + 1) e.2.2 (e.2.2 + 1) x = decide (x = e) := fun x => by
    obtain ⟨e1, e2, e3⟩ := e
    obtain ⟨x1, x2, x3⟩ := x
    unfold inB
    rw [Bool.eq_iff_iff]
    simp only [Bool.and_eq_true, decide_eq_true_eq, Prod.mk.injEq]
    omega
  rw [List.filter_congr (fun x _ => hp x)]
  have hnd : L.Nodup := List.Pairwise.imp (fun {a b} (h : Gm.ltE a b = true) => fun he => by
    subst he
    rw [Gm.ltE_iff] at h
    omega) hst
  clear hst hp
  induction L with
  | nil => rfl
  | cons a L ih =>
    rw [List.nodup_cons] at hnd
    have h1 := ih hnd.2
    simp only [List.filter_cons, List.mem_cons]
    by_cases ha : a = e
    · subst ha
      rw [if_neg hnd.1] at h1
      simp [h1]
    · have ha' : ¬ e = a := fun h => ha h.symm
      simp only [decide_eq_true_eq, if_neg ha, ha', false_or]
      exact h1
set_option maxHeartbeats 8000000 in
set_option maxRecDepth 100000 in
theorem ghas_any {w : World} {b n s : Nat} {L : List E3} (h : GraphAt w b n s L) (f l t : Nat) (hf : f < n) (hl : l < s) (ht : t < n) :
    Calls Tryz.prog 28 #[.pointer (some ⟨b, 0, none⟩), .agg #[.int .i64 (f : Int), .int .i64 (l : Int), .int .i64 (t : Int)]] w fun r w' => r = .returned (.tuple #[.bool (decide (((f : Int), (l : Int), (t : Int)) ∈ L)), .int .i64 0]) ∧ Below w.heap.size w w' := by
  have hbd := h.bd
  obtain ⟨W0, hW0⟩ : ∃ W0, W0 = w.alloc (.cells #[.int .i64 (f : Int), .int .i64 (l : Int), .int .i64 (t : Int)] 41) := ⟨_, rfl⟩
  have hJ : Below w.heap.size w W0 := by rw [hW0]; exact below1 _ _
  have k0 : W0.cell? ⟨w.heap.size, 0, none⟩ = some (.int .i64 (f : Int)) := by rw [hW0]; exact cell_new _ _ _ 0
  have k1 : W0.cell? ⟨w.heap.size, 1, none⟩ = some (.int .i64 (l : Int)) := by rw [hW0]; exact cell_new _ _ _ 1
  have k2 : W0.cell? ⟨w.heap.size, 2, none⟩ = some (.int .i64 (t : Int)) := by rw [hW0]; exact cell_new _ _ _ 2
  have HO : Hid (∀ (u : Nat), u ≤ 1000000 → ∀ W, Calls Tryz.prog 61 #[.int .i64 (u : Int)] W _) := fun u hu W => only2_any u hu W
  have h1 : f ≤ 1000000 := by omega
  have h2 : l ≤ 1000000 := by omega
  have h3 : t ≤ 1000000 := by omega
  have hlen := one_len L h.st ((f : Int), (l : Int), (t : Int))
  have HC : Hid (∀ W, Below W0.heap.size W0 W → Calls Tryz.prog 63 #[.pointer (some ⟨b, 0, none⟩), .agg #[.int .i64 (f : Int), .int .i64 ((f + 1 : Nat) : Int)], .agg #[.int .i64 (l : Int), .int .i64 ((l + 1 : Nat) : Int)], .agg #[.int .i64 (t : Int), .int .i64 ((t + 1 : Nat) : Int)]] W fun e w' => e = .returned (.tuple #[.int .i64 ((if ((f : Int), (l : Int), (t : Int)) ∈ L then 1 else 0 : Nat) : Int), .int .i64 0]) ∧ Below W.heap.size W w') := (fun W hB => by
    have e := gcountq_yes ((h.below hJ).below hB) f (f + 1) l (l + 1) t (t + 1) ⟨by omega, by omega⟩ ⟨by omega, by omega⟩ ⟨by omega, by omega⟩
    rw [show (L.filter (inB (f : Int) ((f + 1 : Nat) : Int) (l : Int) ((l + 1 : Nat) : Int) (t : Int) ((t + 1 : Nat) : Int))).length = if ((f : Int), (l : Int), (t : Int)) ∈ L then 1 else 0 from hlen] at e
    exact e : ∀ W, _)
  have HJ : Hid _ := hJ
  obtain ⟨M, hM⟩ : ∃ M : Nat, M = if ((f : Int), (l : Int), (t : Int)) ∈ L then 1 else 0 := ⟨_, rfl⟩
  rw [← hM] at HC
  have HM : Hid _ := hM
  have hM1 : M ≤ 1 := by rw [hM]; split <;> omega
  clear h hJ hlen hf hl ht hbd hM
  go_enter Tryz.func28, Tryz.ntmps28
  go_wp2_with fail
  rw [← hW0]
  have hJ0 : Below W0.heap.size W0 W0 := Below.refl _ _
  have HW0 : Hid _ := hW0
  clear hW0
  go_region_held3 (fun w' => w'.cell? ⟨w.heap.size, 0, none⟩ = some (.int .i64 (f : Int)) ∧ w'.cell? ⟨w.heap.size, 1, none⟩ = some (.int .i64 (l : Int)) ∧ w'.cell? ⟨w.heap.size, 2, none⟩ = some (.int .i64 (t : Int)))
    (first | (refine ⟨?_, ?_, ?_⟩ <;> assumption) | (go_keep; done))
    (first
      | (go_at_call 61; refine (HO.out _ (by assumption) _).mono ?_; rintro r w1 ⟨rfl, hB1⟩; have hJ1 : Below W0.heap.size W0 w1 := (by refine chain ?_ hB1; first | exact hJ0 | exact hJ0.drew); clear hB1 hJ0; have hJ0 := hJ1; clear hJ1; have q0 := cell_kept hJ0 _ _ k0; have q1 := cell_kept hJ0 _ _ k1; have q2 := cell_kept hJ0 _ _ k2)
      | (go_at_call 63; refine (HC.out _ ?_).mono ?_; exact hJ0; rintro r w4 ⟨rfl, hB4⟩; have hJ1 := chain hJ0 hB4; clear hB4 hJ0; have hJ0 := hJ1; clear hJ1; have r0 := cell_kept hJ0 _ _ k0; have r1 := cell_kept hJ0 _ _ k1; have r2 := cell_kept hJ0 _ _ k2))
  all_goals
    have HB4 : Hid _ := chain HJ.out hJ0
    clear hJ0 HC HO
    by_cases hm : ((f : Int), (l : Int), (t : Int)) ∈ L
    · obtain rfl : M = 1 := by have := HM.out; rwa [if_pos hm] at this
      have Hm : Hid _ := decide_eq_true hm
      clear hm HM
      go_wp2
      go_ret2
      exact ⟨by rw [Hm.out]; rfl, HB4.out⟩
    · obtain rfl : M = 0 := by have := HM.out; rwa [if_neg hm] at this
      have Hm : Hid _ := decide_eq_false hm
      clear hm HM
      go_wp2
      go_ret2
      exact ⟨by rw [Hm.out]; rfl, HB4.out⟩
theorem ghas_mem {w : World} {b n s : Nat} {L : List E3} (h : GraphAt w b n s L) (e : E3) (he : e ∈ L) :
    Calls Tryz.prog 28 #[.pointer (some ⟨b, 0, none⟩), .agg #[.int .i64 e.1, .int .i64 e.2.1, .int .i64 e.2.2]] w fun r w' => r = .returned (.tuple #[.bool true, .int .i64 0]) ∧ Below w.heap.size w w' := by
  obtain ⟨f, l, t⟩ := e
  have hk := h.ok.2 _ he
  unfold Gm.edgeOk at hk
  simp only at hk ⊢
  obtain ⟨f, rfl⟩ : ∃ m : Nat, f = (m : Int) := ⟨f.toNat, by omega⟩
  obtain ⟨l, rfl⟩ : ∃ m : Nat, l = (m : Int) := ⟨l.toNat, by omega⟩
  obtain ⟨t, rfl⟩ : ∃ m : Nat, t = (m : Int) := ⟨t.toNat, by omega⟩
  have := ghas_any h f l t (by omega) (by omega) (by omega)
  rw [decide_eq_true he] at this
  exact this
end Go.Proofs.YtphjbbbnbmafnabGreatDoor.G
