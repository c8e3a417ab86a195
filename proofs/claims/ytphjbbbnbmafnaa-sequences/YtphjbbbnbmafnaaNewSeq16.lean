/-
  succ.NewSeq over a list of numbers of 16 bits in memory: of at most 100000 numbers it makes the sequence, level by level, in new memory, and answers OK; of more it answers nil and ErrInput; nothing that was there is written. The list's reading is the one condition.
-/
import Derived.Test.YtphjbbbnbmafnaaMk16
namespace Go.Proofs.Ytphjbbbnbmafnaa.S16
open Go.RowKit Go.Proofs.Ytphjbbbnbmafnaa

theorem Try.infoP : (Try.prog.info? 23).map (fun i => (i.zero, i.size, i.bytes)) = some (some (.pointer none), 1, 8) := by kernel_rfl
theorem set_np {w : World} {g d : Nat} {q0 : Option Addr} (h : w.cell? ⟨g, d, none⟩ = some (.pointer q0)) (u : Value) (p : Addr) (v : Value) (hp : w.cell? p = some v) (hv : ∀ q, v ≠ .pointer q) : (w.setCell ⟨g, d, none⟩ u).cell? p = some v := by
  rw [World.cell?_setCell_other w ⟨g, d, none⟩ p u (fun e => by subst e; rw [h] at hp; cases hp; exact hv _ rfl)]
  exact hp
theorem bits_np {w w' : World} {b bw ba n : Nat} {f : Nat → Bool} {W : Nat → Nat} (hb : BitsAt w b bw ba f n W) (h : ∀ p v, w.cell? p = some v → (∀ q, v ≠ .pointer q) → w'.cell? p = some v) : BitsAt w' b bw ba f n W :=
  ⟨hb.hn, h _ _ hb.len (by simp), h _ _ hb.ones (by simp), h _ _ hb.words (by simp), h _ _ hb.ahead (by simp), fun j hj => h _ _ (hb.word j hj) (by simp), fun j hj => h _ _ (hb.ahd j hj) (by simp), hb.wlt, hb.wbit, hb.out⟩
theorem nums_np {K : IntKind} {w w' : World} {v : Value} {l : List Nat} (h : NumsAt K w v l) (hk : ∀ p v, w.cell? p = some v → (∀ q, v ≠ .pointer q) → w'.cell? p = some v) : NumsAt K w' v l := by
  obtain ⟨a0, cap, hv, h⟩ := h
  refine ⟨a0, cap, hv, ?_⟩
  rcases h with h | ⟨g, off, hg, hc⟩
  · exact .inl h
  · exact .inr ⟨g, off, hg, fun j x hj => hk _ _ (hc j x hj) (by simp)⟩
theorem own_below {w w' : World} {B : Nat} {e : TypeId} {v : Value} {n : Nat} {xs : List Value} (h : w.ownsRow B e 1 v n xs) (hB : Below w.heap.size w w') : w'.ownsRow B e 1 v n xs := by
  refine ⟨h.1, ?_⟩
  rcases h.2 with h0 | ⟨g, cap, cur, hv, hb, hg, r⟩
  · exact .inl h0
  · refine .inr ⟨g, cap, cur, hv, hb, ?_, r⟩
    rw [hB.block g (by
      rcases Nat.lt_or_ge g w.heap.size with h | h
      · exact h
      · rw [Array.getElem?_eq_none h] at hg; cases hg)]
    exact hg

/-- the levels so far: the first d are laid, the others are nil -/
structure Levels (w wr : World) (l : List Nat) (g b : Nat) (d : Nat) (v : Value) : Prop where
  bel : Below w.heap.size w wr
  len : wr.cell? ⟨b, 0, none⟩ = some (.int .i64 (l.length : Int))
  levels : wr.cell? ⟨b, 1, none⟩ = some (.slice (some ⟨g, 0, none⟩) 16 16)
  nums : NumsAt .u16 wr v (lev 16 l d)
  row : ∃ xs, wr.ownsRow w.heap.size 23 1 (.slice (some ⟨g, 0, none⟩) 16 16) 16 xs ∧ (∀ j, j < 16 → ∃ q, xs[j]? = some (.pointer q)) ∧
    ∀ j, j < d → ∃ bb bw ba W, xs[j]? = some (.pointer (some ⟨bb, 0, none⟩)) ∧ BitsAt wr bb bw ba (bitf (lev 16 l j) (16 - 1 - j)) l.length W
theorem Levels.cell {w wr : World} {l : List Nat} {g b d : Nat} {v : Value} (h : Levels w wr l g b d v) (hd : d < 16) : ∃ q, wr.cell? ⟨g, d, none⟩ = some (.pointer q) ∧ wr.frozen? ⟨g, d, none⟩ = false := by
  obtain ⟨xs, h1, h2, _⟩ := h.row
  obtain ⟨q, hq⟩ := h2 d hd
  exact ⟨q, (h1.cellAt d (by omega)).trans hq, h1.frozenAt d⟩
theorem Levels.below {w wr w2 : World} {l : List Nat} {g b d : Nat} {v : Value} (h : Levels w wr l g b d v) (hB : Below wr.heap.size wr w2) : Levels w w2 l g b d v := by
  refine ⟨chain h.bel hB, cell_kept hB _ _ h.len, cell_kept hB _ _ h.levels, h.nums.below hB, ?_⟩
  obtain ⟨xs, h1, h2, h3⟩ := h.row
  refine ⟨xs, own_below h1 hB, h2, fun j hj => ?_⟩
  obtain ⟨bb, bw, ba, W, h4, h5⟩ := h3 j hj
  exact ⟨bb, bw, ba, W, h4, h5.below hB⟩
theorem Levels.stored {w wr : World} {l : List Nat} {g b d : Nat} {v : Value} (h : Levels w wr l g b d v) (hd : d < 16) (hg : w.heap.size ≤ g) {bb bw ba : Nat} {W : Nat → Nat} (hb : BitsAt wr bb bw ba (bitf (lev 16 l d) (16 - 1 - d)) l.length W) {v2 : Value} {w2 : World}
    (hB : Below (wr.setCell ⟨g, d, none⟩ (.pointer (some ⟨bb, 0, none⟩))).heap.size (wr.setCell ⟨g, d, none⟩ (.pointer (some ⟨bb, 0, none⟩))) w2) (hv2 : NumsAt .u16 w2 v2 (lev 16 l (d + 1))) : Levels w w2 l g b (d + 1) v2 := by
  obtain ⟨q, hq, _⟩ := h.cell hd
  have hk := set_np hq (.pointer (some ⟨bb, 0, none⟩))
  obtain ⟨xs, h1, h2, h3⟩ := h.row
  have hst := (h1.stored d (.pointer (some ⟨bb, 0, none⟩))).1
  have hxl : xs.length = 16 := by have := h1.1; omega
  refine ⟨chain (h.bel.setCell (p := ⟨g, d, none⟩) hg _) hB, cell_kept hB _ _ (hk _ _ h.len (by simp)), cell_kept hB _ _ (hk _ _ h.levels (by simp)), hv2, xs.set d (.pointer (some ⟨bb, 0, none⟩)), own_below hst hB, ?_, ?_⟩
  · intro j hj
    by_cases e : j = d
    · subst e; exact ⟨_, List.getElem?_set_self (by omega)⟩
    · rw [List.getElem?_set_ne (by omega)]; exact h2 j hj
  · intro j hj
    by_cases e : j = d
    · subst e; exact ⟨bb, bw, ba, W, List.getElem?_set_self (by omega), (bits_np hb hk).below hB⟩
    · rw [List.getElem?_set_ne (by omega)]
      obtain ⟨b1, b2, b3, W1, h4, h5⟩ := h3 j (by omega)
      exact ⟨b1, b2, b3, W1, h4, (bits_np h5 hk).below hB⟩
theorem Levels.done {w wr : World} {l : List Nat} {g b : Nat} {v : Value} (h : Levels w wr l g b 16 v) (hn : l.length ≤ 100000) (hl : ∀ x ∈ l, x < 2 ^ 16) : SeqAt 16 wr b g l := by
  obtain ⟨xs, h1, _, h3⟩ := h.row
  refine ⟨hn, hl, h.len, h.levels, fun d hd => ?_⟩
  obtain ⟨bb, bw, ba, W, h4, h5⟩ := h3 d hd
  exact ⟨bb, bw, ba, W, (h1.cellAt d (by omega)).trans h4, h5⟩

set_option maxHeartbeats 400000 in
theorem bitAt_raw {w : World} {b g : Nat} (h1 : w.cell? ⟨b, 1, none⟩ = some (.slice (some ⟨g, 0, none⟩) 16 16)) (d : Nat) (hd : d < 16) :
    Calls Try.prog 53 #[.pointer (some ⟨b, 0, none⟩), .int .i64 (d : Int)] w fun e w' => e = .returned (.int .u16 (bitv 16 d)) ∧ w' = w := by
  go_enter Try.func53, Try.ntmps53
  go_wp2
  go_ret
  refine ⟨ret1_int ?_, rfl⟩
  have hp : 2 ^ (16 - 1 - d) < 2 ^ 16 := Nat.pow_lt_pow_right (by decide) (by omega)
  unfold bitv
  rw [← two_pow_int]
  try rw [IntKind.wrap_u16]
  simp only [Nat.reducePow, Nat.reduceSub] at hp ⊢
  generalize 2 ^ _ = m at *
  omega
set_option maxHeartbeats 400000 in
set_option maxRecDepth 100000 in
theorem len16_any (w : World) : Calls Try.prog 46 #[.int .u16 65535] w fun e w' => e = .returned (.int .i64 16) ∧ w' = w := by
  go_enter Try.func46, Try.ntmps46
  go_wp2
  go_ret
  exact ⟨by kernel_rfl, rfl⟩
set_option maxHeartbeats 400000 in
theorem newseq_long {w : World} {a0 : Option Addr} {n cap : Nat} (hn : 100000 < n) :
    Calls Try.prog 25 #[.slice a0 n cap] w fun e w' => e = .returned (.tuple #[.pointer none, .int .i64 2]) ∧ w' = w := by
  have h1 : (100000 : Int) < (n : Int) := by omega
  go_enter Try.func25, Try.ntmps25
  go_wp2
  go_ret2
  exact ⟨rfl, rfl⟩
theorem made_nil (j : Nat) (hj : j < 16) : ∃ q, (madeCells (Value.pointer none).cells (16 * 1)).toList[j]? = some (.pointer q) := by
  refine ⟨none, ?_⟩
  show (madeCells #[Value.pointer none] (16 * 1)).toList[j]? = _
  rw [toList_madeCells_one, List.getElem?_replicate, if_pos (by omega)]
set_option maxHeartbeats 4000000 in
set_option maxRecDepth 100000 in
theorem newseq_any {w : World} {v : Value} {l : List Nat} (hv : NumsAt .u16 w v l) (hl : ∀ x ∈ l, x < 2 ^ 16) (hn : l.length ≤ 100000) :
    Calls Try.prog 25 #[v] w fun e w' => ∃ b g, e = .returned (.tuple #[.pointer (some ⟨b, 0, none⟩), .int .i64 0]) ∧ SeqAt 16 w' b g l ∧ Below w.heap.size w w' := by
  obtain ⟨a0, cap, rfl, hdrop⟩ := hv.open
  clear hdrop
  have HV : Hid (NumsAt .u16 w (.slice a0 l.length cap) l) := hv
  have HL : Hid _ := hl
  clear hv hl
  obtain ⟨i0, hi, hz0, hz1, hz2⟩ := info_parts Try.infoP
  go_enter Try.func25, Try.ntmps25
  go_wp2_with fail
  refine (len16_any _).mono ?_
  rintro e w0 ⟨rfl, hw⟩
  rw [hw]
  clear hw w0
  go_wp2_with (at_make; refine wpList_make_full _ rfl _ _ 90 rfl w.heap.size 23 i0 (.pointer none) 1 Try.underlying90 hi hz0 hz1 _ _ _ _ 16 rfl rfl (by omega) (by omega) (by rw [hz2]; omega) (by unfold maxLen; omega) (Nat.le_refl _) ?_; intro w1 hown hgrow)
  have hb1 : Below w.heap.size w w1 := (Below.refl _ _).grown hgrow (Nat.le_refl _) (fun k hk => by cases hk)
  have hnew : Below w1.heap.size w1 (w1.alloc (.cells #[.int .i64 (l.length : Int), .slice (some ⟨w.heap.size, 0, none⟩) 16 16] 100)) := (Below.refl _ _).alloc (Nat.le_refl _) _
  have HL0 : Hid (Levels w (w1.alloc (.cells #[.int .i64 (l.length : Int), .slice (some ⟨w.heap.size, 0, none⟩) 16 16] 100)) l w.heap.size w1.heap.size 0 (.slice a0 l.length cap)) :=
    ⟨chain hb1 hnew, by simp, by simp, (HV.out.below hb1).below hnew, _, own_below hown hnew, made_nil, fun j hj => absurd hj (Nat.not_lt_zero _)⟩
  clear hnew hown hgrow hb1
  go_loopw [0, 23] (fun v c wr => ∃ d : Nat, d ≤ 16 ∧ c = .int .i64 d ∧ Hid (Levels w wr l w.heap.size w1.heap.size d v)) (fun _ c _ => 16 - (intOf c).toNat)
  case atStart => exact ⟨0, Nat.zero_le _, rfl, HL0.out⟩
  case round =>
    clear HL0
    obtain ⟨d, hd, rfl, HI⟩ := hrel
    by_cases hlt : d < 16
    · have hdI : (d : Int) < 16 := by omega
      have h1 := HI.out.levels
      obtain ⟨q0, hq0, hf0⟩ := HI.out.cell hlt
      have HBO : Hid (∀ w2, NumsAt .u16 w2 u0 (lev 16 l d) → Calls Try.prog 54 _ w2 _) := fun w2 h2 => bon_any h2 (fun x hx => HL.out x (lev_mem hx)) (by rw [lev_length]; exact hn) d hlt
      have HZF : Hid (∀ w2, NumsAt .u16 w2 u0 (lev 16 l d) → Calls Try.prog 55 _ w2 _) := fun w2 h2 => zf_any h2 (fun x hx => HL.out x (lev_mem hx)) (by rw [lev_length]; exact hn) d hlt
      go_wp2_with fail
      refine (bitAt_raw h1 d hlt).mono ?_
      rintro e w2 ⟨rfl, hw⟩
      rw [hw]
      clear hw w2
      go_wp2
      go_region_held (fun w' => w'.cell? ⟨w1.heap.size, 1, none⟩ = some (.slice (some ⟨w.heap.size, 0, none⟩) 16 16)) (go_keep) (first
        | (go_at_call 54; refine (HBO.out _ ?_).mono ?_; exact (HI.out.nums.kept (fun _ _ h => h)); rintro e w' ⟨bb, bw, ba, W, rfl, hbits, hB⟩; have q1 := cell_kept hB ⟨w1.heap.size, 1, none⟩ (.slice (some ⟨w.heap.size, 0, none⟩) 16 16) h1; have q2 := cell_kept hB ⟨w.heap.size, d, none⟩ (.pointer q0) hq0; have q3 := (hB.frozen (p := ⟨w.heap.size, d, none⟩) (World.block_lt_of_cell? _ _ hq0)).trans hf0; have q4 := set_np q2 (.pointer (some ⟨bb, 0, none⟩)) ⟨w1.heap.size, 1, none⟩ _ q1 (by simp)))
      have hL2 := HI.out.below ((Below.refl wr.heap.size wr).drew.trans hB)
      have HNN : Hid _ := nums_np hL2.nums (set_np q2 (.pointer (some ⟨bb, 0, none⟩)))
      have HL2 : Hid (Levels w w' l w.heap.size w1.heap.size d u0) := hL2
      have HBT : Hid _ := hbits
      clear hL2 hB hbits q1 q2 q3 q4 h1 hq0 hf0
      go_wp2_with fail
      refine (HZF.out _ HNN.out).mono ?_
      rintro e w3 ⟨v3, rfl, hnums, hB3⟩
      have HE : Hid (Levels w w3 l w.heap.size w1.heap.size (d + 1) v3) := HL2.out.stored hlt (Nat.le_refl _) (by have := HBT.out; rw [lev_length] at this; exact this) hB3 hnums
      clear hnums hB3
      go_wp2
      go_roundw
      case rel => exact ⟨d + 1, by omega, by go_num, HE.out⟩
      case measure => simp [intOf]; omega
    · obtain rfl : d = 16 := by omega
      go_wp2
      go_ret2
      exact ⟨_, _, rfl, HI.out.done hn HL.out, HI.out.bel⟩
end Go.Proofs.Ytphjbbbnbmafnaa.S16
