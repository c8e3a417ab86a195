/-
  Count where all three are spans, and Has where the edge is within the size: what they answer; new memory; nothing that was there is written.
-/
import Derived.Test.YtphjbbbnbmafnabGreatDoorPCn
namespace Go.Proofs.YtphjbbbnbmafnabGreatDoor.G
open Go.RowKit

attribute [local go_sem ↓] Go.wp_at_zero Go.wp_at_succ
set_option maxHeartbeats 8000000 in
set_option maxRecDepth 100000 in
theorem gcountq_yes {w : World} {b n s : Nat} {L : List E3} (h : GraphAt w b n s L) (f1 f2 l1 l2 t1 t2 : Nat) (hf : f1 ≤ f2 ∧ f2 ≤ n) (hl : l1 ≤ l2 ∧ l2 ≤ s) (ht : t1 ≤ t2 ∧ t2 ≤ n) :
    Calls Tryz.prog 63 #[.pointer (some ⟨b, 0, none⟩), .agg #[.int .i64 (f1 : Int), .int .i64 (f2 : Int)], .agg #[.int .i64 (l1 : Int), .int .i64 (l2 : Int)], .agg #[.int .i64 (t1 : Int), .int .i64 (t2 : Int)]] w fun e w' => e = .returned (.tuple #[.int .i64 ((L.filter (inB f1 f2 l1 l2 t1 t2)).length : Int), .int .i64 0]) ∧ Below w.heap.size w w' := by
  obtain ⟨W0, hW0⟩ : ∃ W0, W0 = ((w.alloc (.cells #[.int .i64 (f1 : Int), .int .i64 (f2 : Int)] 133)).alloc (.cells #[.int .i64 (l1 : Int), .int .i64 (l2 : Int)] 133)).alloc (.cells #[.int .i64 (t1 : Int), .int .i64 (t2 : Int)] 133) := ⟨_, rfl⟩
  have hJ : Below w.heap.size w W0 := by rw [hW0]; exact bel_al (bel_al (below1 _ _))
  obtain ⟨k0, k1, k2, k3, k4, k5⟩ := three_spans w (.int .i64 (f1 : Int)) (.int .i64 (f2 : Int)) (.int .i64 (l1 : Int)) (.int .i64 (l2 : Int)) (.int .i64 (t1 : Int)) (.int .i64 (t2 : Int)) 133
  rw [← hW0] at k0 k1 k2 k3 k4 k5
  have hg := h.below hJ
  have kn := hg.sz0
  have ks := hg.sz1
  have HG : Hid _ := hg
  have HJ : Hid _ := hJ
  have HC : Hid (∀ W, GraphAt W b n s L → Calls Tryz.prog 97 #[.pointer (some ⟨b, 0, none⟩), .agg #[.int .i64 (f1 : Int), .int .i64 (f2 : Int)], .agg #[.int .i64 (l1 : Int), .int .i64 (l2 : Int)], .agg #[.int .i64 (t1 : Int), .int .i64 (t2 : Int)]] W _) := fun W h => gcount_any h f1 f2 l1 l2 t1 t2 hf hl ht
  have HS1 : Hid (∀ W, Calls Tryz.prog 93 _ W _) := fun W => isSpan_any (f1 : Int) (f2 : Int) (n : Int) W
  rw [decide_eq_true (by omega : 0 ≤ (f1 : Int) ∧ (f1 : Int) ≤ (f2 : Int) ∧ (f2 : Int) ≤ (n : Int))] at HS1
  have HS2 : Hid (∀ W, Calls Tryz.prog 93 _ W _) := fun W => isSpan_any (l1 : Int) (l2 : Int) (s : Int) W
  rw [decide_eq_true (by omega : 0 ≤ (l1 : Int) ∧ (l1 : Int) ≤ (l2 : Int) ∧ (l2 : Int) ≤ (s : Int))] at HS2
  have HS3 : Hid (∀ W, Calls Tryz.prog 93 _ W _) := fun W => isSpan_any (t1 : Int) (t2 : Int) (n : Int) W
  rw [decide_eq_true (by omega : 0 ≤ (t1 : Int) ∧ (t1 : Int) ≤ (t2 : Int) ∧ (t2 : Int) ≤ (n : Int))] at HS3
  generalize (L.filter (inB f1 f2 l1 l2 t1 t2)).length = N at HC ⊢
  clear h hg hJ hf hl ht
  go_enter Tryz.func63, Tryz.ntmps63
  go_wp2_with fail
  rw [← hW0]
  have HW0 : Hid _ := hW0
  clear hW0
  go_region_held3 (fun w' => w'.cell? ⟨w.heap.size, 0, none⟩ = some (.int .i64 (f1 : Int)) ∧ w'.cell? ⟨w.heap.size, 1, none⟩ = some (.int .i64 (f2 : Int)) ∧ w'.cell? ⟨w.heap.size + 1, 0, none⟩ = some (.int .i64 (l1 : Int)) ∧ w'.cell? ⟨w.heap.size + 1, 1, none⟩ = some (.int .i64 (l2 : Int)) ∧ w'.cell? ⟨w.heap.size + 1 + 1, 0, none⟩ = some (.int .i64 (t1 : Int)) ∧ w'.cell? ⟨w.heap.size + 1 + 1, 1, none⟩ = some (.int .i64 (t2 : Int)) ∧ w'.cell? ⟨b, 0, none⟩ = some (.int .i64 (n : Int)) ∧ w'.cell? ⟨b, 1, none⟩ = some (.int .i64 (s : Int)))
    (first | (refine ⟨?_, ?_, ?_, ?_, ?_, ?_, ?_, ?_⟩ <;> assumption) | (go_keep; done))
    (first
      | (go_at_call_of 93 (Value.agg #[Value.int IntKind.i64 (f1 : Int), Value.int IntKind.i64 (f2 : Int)]); refine (HS1.out _).mono ?_; rintro r w1 ⟨rfl, hB1d⟩; have hB1 := ((Below.refl W0.heap.size W0).drew).trans hB1d; clear hB1d; have q0 := cell_kept hB1 _ _ k0; have q1 := cell_kept hB1 _ _ k1; have q2 := cell_kept hB1 _ _ k2; have q3 := cell_kept hB1 _ _ k3; have q4 := cell_kept hB1 _ _ k4; have q5 := cell_kept hB1 _ _ k5; have q6 := cell_kept hB1 _ _ kn; have q7 := cell_kept hB1 _ _ ks)
      | (go_at_call_of 93 (Value.agg #[Value.int IntKind.i64 (l1 : Int), Value.int IntKind.i64 (l2 : Int)]); refine (HS2.out _).mono ?_; rintro r w2 ⟨rfl, hB2d⟩; have hB2 := chain hB1 hB2d; clear hB2d; have r0 := cell_kept hB2 _ _ k0; have r1 := cell_kept hB2 _ _ k1; have r2 := cell_kept hB2 _ _ k2; have r3 := cell_kept hB2 _ _ k3; have r4 := cell_kept hB2 _ _ k4; have r5 := cell_kept hB2 _ _ k5; have r6 := cell_kept hB2 _ _ kn; have r7 := cell_kept hB2 _ _ ks)
      | (go_at_call_of 93 (Value.agg #[Value.int IntKind.i64 (t1 : Int), Value.int IntKind.i64 (t2 : Int)]); refine (HS3.out _).mono ?_; rintro r w3 ⟨rfl, hB3d⟩; have hB3 := chain hB2 hB3d; clear hB3d; have s0 := cell_kept hB3 _ _ k0; have s1 := cell_kept hB3 _ _ k1; have s2 := cell_kept hB3 _ _ k2; have s3 := cell_kept hB3 _ _ k3; have s4 := cell_kept hB3 _ _ k4; have s5 := cell_kept hB3 _ _ k5; have s6 := cell_kept hB3 _ _ kn; have s7 := cell_kept hB3 _ _ ks))
  have HB3 : Hid _ := hB3
  clear hB1 hB2 hB3 q0 q1 q2 q3 q4 q5 q6 q7 r0 r1 r2 r3 r4 r5 r6 r7 k0 k1 k2 k3 k4 k5 kn ks HS1 HS2 HS3
  go_wp2_with fail
  refine (Calls.mono (HC.out w3 (HG.out.below HB3.out)) ?_)
  rintro e w4 ⟨rfl, hB4⟩
  have HB4 : Hid _ := chain HJ.out (chain HB3.out hB4)
  clear hB4 HC
  go_wp2
  go_ret2
  exact ⟨rfl, HB4.out⟩
/-- just one edge lies within the spans of one number each -/
theorem one_len (L : List E3) (hst : Gm.Strict L) (e : E3) : (L.filter (inB e.1 (e.1 + 1) e.2.1 (e.2.1 + 1) e.2.2 (e.2.2 + 1))).length = if e ∈ L then 1 else 0 := by
  have hp : ∀ x : E3, inB e.1 (e.1 + 1) e.2.1 (e.2.1 + 1) e.2.2 (e.2.2 + 1) x = decide (x = e) := fun x => by
    obtain ⟨e1, e2, e3⟩ := e
    obtain ⟨x1, x2, x3⟩ := x
    unfold inB
    rw [Bool.eq_iff_iff]
    simp only [Bool.and_eq_true, decide_eq_true_eq, Prod.mk.injEq]
    omega
  rw [List.filter_congr (fun x _ => hp x)]
  have hnd : L.Nodup := List.Pairwise.imp (fun {a b} (h : Gm.ltE a b = true) => fun he => by
    subst he
    rw [Gm.ltE_iff] at h
    omega) hst
  clear hst hp
  induction L with
  | nil => rfl
  | cons a L ih =>
    rw [List.nodup_cons] at hnd
    have h1 := ih hnd.2
    simp only [List.filter_cons, List.mem_cons]
    by_cases ha : a = e
    · subst ha
      rw [if_neg hnd.1] at h1
      simp [h1]
    · have ha' : ¬ e = a := fun h => ha h.symm
      simp only [decide_eq_true_eq, if_neg ha, ha', false_or]
      exact h1
set_option maxHeartbeats 8000000 in
set_option maxRecDepth 100000 in
theorem ghas_any {w : World} {b n s : Nat} {L : List E3} (h : GraphAt w b n s L) (f l t : Nat) (hf : f < n) (hl : l < s) (ht : t < n) :
    Calls Tryz.prog 28 #[.pointer (some ⟨b, 0, none⟩), .agg #[.int .i64 (f : Int), .int .i64 (l : Int), .int .i64 (t : Int)]] w fun r w' => r = .returned (.tuple #[.bool (decide (((f : Int), (l : Int), (t : Int)) ∈ L)), .int .i64 0]) ∧ Below w.heap.size w w' := by
  have hbd := h.bd
  obtain ⟨W0, hW0⟩ : ∃ W0, W0 = w.alloc (.cells #[.int .i64 (f : Int), .int .i64 (l : Int), .int .i64 (t : Int)] 41) := ⟨_, rfl⟩
  have hJ : Below w.heap.size w W0 := by rw [hW0]; exact below1 _ _
  have k0 : W0.cell? ⟨w.heap.size, 0, none⟩ = some (.int .i64 (f : Int)) := by rw [hW0]; exact cell_new _ _ _ 0
  have k1 : W0.cell? ⟨w.heap.size, 1, none⟩ = some (.int .i64 (l : Int)) := by rw [hW0]; exact cell_new _ _ _ 1
  have k2 : W0.cell? ⟨w.heap.size, 2, none⟩ = some (.int .i64 (t : Int)) := by rw [hW0]; exact cell_new _ _ _ 2
  have HO : Hid (∀ (u : Nat), u ≤ 1000000 → ∀ W, Calls Tryz.prog 61 #[.int .i64 (u : Int)] W _) := fun u hu W => only2_any u hu W
  have h1 : f ≤ 1000000 := by omega
  have h2 : l ≤ 1000000 := by omega
  have h3 : t ≤ 1000000 := by omega
  have hlen := one_len L h.st ((f : Int), (l : Int), (t : Int))
  have HC : Hid (∀ W, Below W0.heap.size W0 W → Calls Tryz.prog 63 #[.pointer (some ⟨b, 0, none⟩), .agg #[.int .i64 (f : Int), .int .i64 ((f + 1 : Nat) : Int)], .agg #[.int .i64 (l : Int), .int .i64 ((l + 1 : Nat) : Int)], .agg #[.int .i64 (t : Int), .int .i64 ((t + 1 : Nat) : Int)]] W fun e w' => e = .returned (.tuple #[.int .i64 ((if ((f : Int), (l : Int), (t : Int)) ∈ L then 1 else 0 : Nat) : Int), .int .i64 0]) ∧ Below W.heap.size W w') := (fun W hB => by
    have e := gcountq_yes ((h.below hJ).below hB) f (f + 1) l (l + 1) t (t + 1) ⟨by omega, by omega⟩ ⟨by omega, by omega⟩ ⟨by omega, by omega⟩
    rw [show (L.filter (inB (f : Int) ((f + 1 : Nat) : Int) (l : Int) ((l + 1 : Nat) : Int) (t : Int) ((t + 1 : Nat) : Int))).length = if ((f : Int), (l : Int), (t : Int)) ∈ L then 1 else 0 from hlen] at e
    exact e : ∀ W, _)
  have HJ : Hid _ := hJ
  obtain ⟨M, hM⟩ : ∃ M : Nat, M = if ((f : Int), (l : Int), (t : Int)) ∈ L then 1 else 0 := ⟨_, rfl⟩
  rw [← hM] at HC
  have HM : Hid _ := hM
  have hM1 : M ≤ 1 := by rw [hM]; split <;> omega
  clear h hJ hlen hf hl ht hbd hM
  go_enter Tryz.func28, Tryz.ntmps28
  go_wp2_with fail
  rw [← hW0]
  have hJ0 : Below W0.heap.size W0 W0 := Below.refl _ _
  have HW0 : Hid _ := hW0
  clear hW0
  go_region_held3 (fun w' => w'.cell? ⟨w.heap.size, 0, none⟩ = some (.int .i64 (f : Int)) ∧ w'.cell? ⟨w.heap.size, 1, none⟩ = some (.int .i64 (l : Int)) ∧ w'.cell? ⟨w.heap.size, 2, none⟩ = some (.int .i64 (t : Int)))
    (first | (refine ⟨?_, ?_, ?_⟩ <;> assumption) | (go_keep; done))
    (first
      | (go_at_call 61; refine (HO.out _ (by assumption) _).mono ?_; rintro r w1 ⟨rfl, hB1⟩; have hJ1 : Below W0.heap.size W0 w1 := (by refine chain ?_ hB1; first | exact hJ0 | exact hJ0.drew); clear hB1 hJ0; have hJ0 := hJ1; clear hJ1; have q0 := cell_kept hJ0 _ _ k0; have q1 := cell_kept hJ0 _ _ k1; have q2 := cell_kept hJ0 _ _ k2)
      | (go_at_call 63; refine (HC.out _ ?_).mono ?_; exact hJ0; rintro r w4 ⟨rfl, hB4⟩; have hJ1 := chain hJ0 hB4; clear hB4 hJ0; have hJ0 := hJ1; clear hJ1; have r0 := cell_kept hJ0 _ _ k0; have r1 := cell_kept hJ0 _ _ k1; have r2 := cell_kept hJ0 _ _ k2))
  all_goals
    have HB4 : Hid _ := chain HJ.out hJ0
    clear hJ0 HC HO
    by_cases hm : ((f : Int), (l : Int), (t : Int)) ∈ L
    · obtain rfl : M = 1 := by have := HM.out; rwa [if_pos hm] at this
      have Hm : Hid _ := decide_eq_true hm
      clear hm HM
      go_wp2
      go_ret2
      exact ⟨by rw [Hm.out]; rfl, HB4.out⟩
    · obtain rfl : M = 0 := by have := HM.out; rwa [if_neg hm] at this
      have Hm : Hid _ := decide_eq_false hm
      clear hm HM
      go_wp2
      go_ret2
      exact ⟨by rw [Hm.out]; rfl, HB4.out⟩
theorem ghas_mem {w : World} {b n s : Nat} {L : List E3} (h : GraphAt w b n s L) (e : E3) (he : e ∈ L) :
    Calls Tryz.prog 28 #[.pointer (some ⟨b, 0, none⟩), .agg #[.int .i64 e.1, .int .i64 e.2.1, .int .i64 e.2.2]] w fun r w' => r = .returned (.tuple #[.bool true, .int .i64 0]) ∧ Below w.heap.size w w' := by
  obtain ⟨f, l, t⟩ := e
  have hk := h.ok.2 _ he
  unfold Gm.edgeOk at hk
  simp only at hk ⊢
  obtain ⟨f, rfl⟩ : ∃ m : Nat, f = (m : Int) := ⟨f.toNat, by omega⟩
  obtain ⟨l, rfl⟩ : ∃ m : Nat, l = (m : Int) := ⟨l.toNat, by omega⟩
  obtain ⟨t, rfl⟩ : ∃ m : Nat, t = (m : Int) := ⟨t.toNat, by omega⟩
  have := ghas_any h f l t (by omega) (by omega) (by omega)
  rw [decide_eq_true he] at this
  exact this
end Go.Proofs.YtphjbbbnbmafnabGreatDoor.G
