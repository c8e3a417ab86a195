/-
  trellislaw's list to hand over (numbers of 8 bits, with eight more of the caller's behind), and its look back at it: it reads as it did, and is written over then; what else lies in memory and is no number of 8 bits stays. The lists' reading is the one condition.
-/
import Derived.Test.YtphjbbbnbmafnaaNewSeq8
import Derived.Test.YtphjbbbnbmafnaaCut
namespace Go.Proofs.Ytphjbbbnbmafnaa.S8
open Go.RowKit Go.Proofs.Ytphjbbbnbmafnaa

/-- the numbers, and eight more of the caller's -/
def full (l : List Nat) : List Nat := l ++ List.replicate 8 77
theorem full_len (l : List Nat) : (full l).length = l.length + 8 := by simp [full]
theorem full_old {l : List Nat} {k x : Nat} (h : l[k]? = some x) : (full l)[k]? = some x := by
  have hlt : k < l.length := by
    rcases Nat.lt_or_ge k l.length with e | e
    · exact e
    · rw [List.getElem?_eq_none e] at h; cases h
  unfold full
  rw [List.getElem?_append_left hlt]; exact h
theorem full_new {l : List Nat} {k : Nat} (h1 : l.length ≤ k) (h2 : k < l.length + 8) : (full l)[k]? = some 77 := by
  unfold full
  rw [List.getElem?_append_right h1, List.getElem?_replicate, if_pos (by omega)]
/-- the first k are told -/
def ToldN (l : List Nat) (N k : Nat) (xs : List Value) : Prop := xs.length = N ∧ ∀ j x, j < k → l[j]? = some x → xs[j]? = some (.int .u8 (x : Int))
theorem toldN_step {l : List Nat} {N k x : Nat} {xs : List Value} (h : ToldN l N k xs) (hk : k < N) (hx : l[k]? = some x) : ToldN l N (k + 1) (xs.set k (.int .u8 (x : Int))) := by
  refine ⟨by simpa using h.1, fun j y hj hy => ?_⟩
  by_cases e : j = k
  · subst e
    rw [hx] at hy; cases hy
    rw [List.getElem?_set_self (by rw [h.1]; exact hk)]
  · rw [List.getElem?_set_ne (by omega)]; exact h.2 j y (by omega) hy
theorem toldN_keep {l : List Nat} {N k : Nat} {xs : List Value} (h : ToldN l N k xs) (u : Value) : ToldN l N k (xs.set k u) := by
  refine ⟨by simpa using h.1, fun j y hj hy => ?_⟩
  rw [List.getElem?_set_ne (by omega)]; exact h.2 j y hj hy
theorem toldN_vals {l : List Nat} {xs : List Value} (h : ToldN l l.length l.length xs) : xs = vals .u8 l := by
  apply List.ext_getElem?
  intro j
  by_cases hj : j < l.length
  · have hx : l[j]? = some l[j] := List.getElem?_eq_getElem hj
    rw [h.2 j _ hj hx]
    unfold vals
    rw [List.getElem?_map, hx]; rfl
  · rw [List.getElem?_eq_none (by rw [h.1]; omega), List.getElem?_eq_none (by rw [vals_len]; omega)]

set_option maxHeartbeats 4000000 in
set_option maxRecDepth 100000 in
theorem lent_any {w : World} {v : Value} {l : List Nat} (hv : NumsAt .i64 w v l) (hl : ∀ x ∈ l, x < 2 ^ 8) (hlen : l.length * 8 ≤ 140737488351232) :
    Calls Try.prog 23 #[v] w fun e w' => e = .returned (.slice (some ⟨w.heap.size, 0, none⟩) (l.length + 8) (l.length + 8)) ∧ w'.ownsRow w.heap.size 5 1 (.slice (some ⟨w.heap.size, 0, none⟩) (l.length + 8) (l.length + 8)) (l.length + 8) (vals .u8 (full l)) ∧ Below w.heap.size w w' := by
  obtain ⟨a0, cap, rfl, hc⟩ := hv.open
  have HC : Hid _ := hc
  have HL : Hid _ := hl
  clear hc hv hl
  obtain ⟨i0, hi, hz0, hz1, hz2⟩ := info_parts Try.infoW
  go_enter Try.func23, Try.ntmps23
  go_wp2_with (at_make; refine wpList_make_full _ rfl _ _ 48 rfl w.heap.size 5 i0 (.int .u8 0) 1 Try.underlying48 hi hz0 hz1 _ _ _ _ (l.length + 8) rfl rfl (by omega) (by omega) (by rw [hz2]; omega) (by unfold maxLen; omega) (Nat.le_refl _) ?_; intro w1 hown hgrow)
  have hb1 : Below w.heap.size w w1 := (Below.refl _ _).grown hgrow (Nat.le_refl _) (fun k hk => by cases hk)
  have hst : ToldN (full l) (l.length + 8) 0 (madeCells (Value.int IntKind.u8 0).cells ((l.length + 8) * 1)).toList := ⟨by simp [size_madeCells], fun j x hj => absurd hj (Nat.not_lt_zero _)⟩
  generalize (madeCells (Value.int IntKind.u8 0).cells ((l.length + 8) * 1)).toList = xs0 at hown hst
  clear hgrow
  go_loopw [4] (fun c wr => ∃ (k : Nat) (xs : List Value), k ≤ l.length + 8 ∧ c = .int .i64 k ∧ wr.ownsRow w.heap.size 5 1 (.slice (some ⟨w.heap.size, 0, none⟩) (l.length + 8) (l.length + 8)) (l.length + 8) xs ∧ ToldN (full l) (l.length + 8) k xs ∧ Below w.heap.size w wr) (fun c _ => l.length + 8 - (intOf c).toNat)
  case atStart => exact ⟨0, xs0, Nat.zero_le _, rfl, hown, hst, hb1⟩
  case round =>
    clear hown hst hb1
    obtain ⟨k, xs, hk, rfl, hown, htold, hbel⟩ := hrel
    by_cases hlt : k < l.length + 8
    · have hold : ∃ u, wr.cell? ⟨w.heap.size, k, none⟩ = some u := ⟨xs[k]'(by rw [htold.1]; exact hlt), (hown.cellAt k (by omega)).trans (List.getElem?_eq_getElem _)⟩
      obtain ⟨u, hu⟩ := hold
      have hfr := hown.frozenAt k
      have hk1 : (k : Int) < ((l.length + 8 : Nat) : Int) := by omega
      have hk2 : (k : Int) < (l.length : Int) + 8 := by omega
      have hs1 := hown.stored k (.int .u8 77)
      have HO : Hid _ := hown
      have HT : Hid _ := htold
      have HB : Hid _ := hbel
      have HS1 : Hid _ := hs1
      by_cases hlo : k < l.length
      · obtain ⟨x, hx⟩ := some_at' hlo
        obtain ⟨g, off, rfl, hxc⟩ := HC.out k x hx
        have hxB := lt_of HL.out hx
        have hw1 : IntKind.u8.wrap (x : Int) = (x : Int) := by rw [IntKind.wrap_u8]; omega
        have hw2 : (x : Int) % 256 = (x : Int) := by omega
        have hgl : g < w.heap.size := World.block_lt_of_cell? _ _ hxc
        have hx2 : (wr.setCell ⟨w.heap.size, k, none⟩ (.int .u8 77)).cell? ⟨g, off + k, none⟩ = some (.int .i64 (x : Int)) := by
          rw [World.cell?_setCell_far _ _ _ _ (by show w.heap.size ≠ g; omega)]
          exact cell_kept hbel _ _ hxc
        have HF : Hid _ := full_old hx
        have hloI : (k : Int) < (l.length : Int) := by omega
        clear hown htold hbel hs1 hx hxc
        go_wp2
        go_roundw
        case rel => exact ⟨k + 1, _, by omega, by go_num, (HS1.out.1.stored k (.int .u8 (x : Int))).1, toldN_step (toldN_keep HT.out _) hlt HF.out, (HB.out.setCell (p := ⟨w.heap.size, k, none⟩) (Nat.le_refl _) _).setCell (p := ⟨w.heap.size, k, none⟩) (Nat.le_refl _) _⟩
        case measure => simp [intOf]; omega
      · have HF : Hid _ := full_new (l := l) (k := k) (by omega) hlt
        have hloI : ¬ (k : Int) < (l.length : Int) := by omega
        clear hown htold hbel hs1
        go_wp2
        go_roundw
        case rel => exact ⟨k + 1, _, by omega, by go_num, HS1.out.1, toldN_step HT.out hlt HF.out, HB.out.setCell (p := ⟨w.heap.size, k, none⟩) (Nat.le_refl _) _⟩
        case measure => simp [intOf]; omega
    · obtain rfl : k = l.length + 8 := by omega
      have hE : xs = vals .u8 (full l) := toldN_vals (by rw [full_len]; exact htold)
      have HO : Hid (wr.ownsRow w.heap.size 5 1 (.slice (some ⟨w.heap.size, 0, none⟩) (l.length + 8) (l.length + 8)) (l.length + 8) (vals .u8 (full l))) := by rw [← hE]; exact hown
      have HB : Hid _ := hbel
      clear hown htold hbel hE
      go_wp2
      go_ret
      exact ⟨rfl, HO.out, HB.out⟩

/-! ### the look back -/
/-- what is no number of 8 bits stays -/
def Keeps (w w' : World) : Prop := ∀ p u, w.cell? p = some u → (∀ q, u ≠ .int .u8 q) → w'.cell? p = some u
theorem Keeps.trans {a b c : World} (h : Keeps a b) (k : Keeps b c) : Keeps a c := fun p u hp hu => k p u (h p u hp hu) hu
theorem Keeps.of_below {w w' : World} (h : Below w.heap.size w w') : Keeps w w' := fun p u hp _ => cell_kept h p u hp
theorem Keeps.set {w wr : World} {g k : Nat} {q0 : Int} (h : Keeps w wr) (hc : wr.cell? ⟨g, k, none⟩ = some (.int .u8 q0)) (u : Value) : Keeps w (wr.setCell ⟨g, k, none⟩ u) := by
  intro p v hp hv
  rw [World.cell?_setCell_other wr ⟨g, k, none⟩ p u (fun e => by
    subst e
    have := h _ _ hp hv
    rw [hc] at this
    cases this
    exact hv _ rfl)]
  exact h p v hp hv
/-- the round of the look back -/
structure Back (w wr : World) (B g g2 : Nat) (l : List Nat) (k : Nat) : Prop where
  row : ∃ xs, wr.ownsRow B 5 1 (.slice (some ⟨g, 0, none⟩) l.length l.length) l.length xs ∧ (∀ j, k ≤ j → xs[j]? = (vals .u8 l)[j]?)
  want : ∀ (j x : Nat), l[j]? = some x → wr.cell? ⟨g2, j, none⟩ = some (.int .u8 (x : Int))
  keeps : Keeps w wr
  bel : Below g w wr
  els : ∀ j, j ≠ g → j < w.heap.size → wr.heap[j]? = w.heap[j]?
theorem Back.cell {w wr : World} {B g g2 : Nat} {l : List Nat} {k x : Nat} (h : Back w wr B g g2 l k) (hx : l[k]? = some x) : wr.cell? ⟨g, k, none⟩ = some (.int .u8 (x : Int)) ∧ wr.frozen? ⟨g, k, none⟩ = false := by
  obtain ⟨xs, h1, h2⟩ := h.row
  have hk : k < l.length := by
    rcases Nat.lt_or_ge k l.length with e | e
    · exact e
    · rw [List.getElem?_eq_none e] at hx; cases hx
  refine ⟨(h1.cellAt k (by omega)).trans ?_, h1.frozenAt k⟩
  rw [h2 k (Nat.le_refl _)]
  unfold vals
  rw [List.getElem?_map, hx]; rfl
theorem Back.next {w wr : World} {B g g2 : Nat} {l : List Nat} {k x : Nat} (h : Back w wr B g g2 l k) (hx : l[k]? = some x) (hg : g ≠ g2) (u : Value) : Back w (wr.setCell ⟨g, k, none⟩ u) B g g2 l (k + 1) := by
  obtain ⟨xs, h1, h2⟩ := h.row
  refine ⟨⟨_, (h1.stored k u).1, fun j hj => ?_⟩, fun j y hy => ?_, h.keeps.set (h.cell hx).1 u, h.bel.setCell (p := ⟨g, k, none⟩) (Nat.le_refl _) _, fun j hj hl => (Below.heap_setCell wr ⟨g, k, none⟩ u j hj).trans (h.els j hj hl)⟩
  · rw [List.getElem?_set_ne (by omega)]; exact h2 j (by omega)
  · rw [World.cell?_setCell_far _ _ _ _ (by show g ≠ g2; exact hg)]; exact h.want j y hy
theorem Back.drewN {w wr : World} {B g g2 : Nat} {l : List Nat} {k : Nat} (h : Back w wr B g g2 l k) (n : Nat) : Back w (wr.drewN n) B g g2 l k := by
  obtain ⟨xs, h1, h2⟩ := h.row
  exact ⟨⟨xs, h1, h2⟩, h.want, h.keeps, below_drewN h.bel n, h.els⟩

set_option maxHeartbeats 4000000 in
set_option maxRecDepth 100000 in
theorem still_any {w : World} {v : Value} {l : List Nat} {B g : Nat} (hv : NumsAt .i64 w v l) (hl : ∀ x ∈ l, x < 2 ^ 8) (hlen : l.length * 8 ≤ 140737488351232)
    (hown : w.ownsRow B 5 1 (.slice (some ⟨g, 0, none⟩) (l.length + 8) (l.length + 8)) (l.length + 8) (vals .u8 (full l))) (hg : g < w.heap.size) :
    Calls Try.prog 26 #[.slice (some ⟨g, 0, none⟩) (l.length + 8) (l.length + 8), v] w fun e w' => e = .returned (.bool true) ∧ Keeps w w' ∧ Below g w w' ∧ ∀ j, j ≠ g → j < w.heap.size → w'.heap[j]? = w.heap[j]? := by
  have HV : Hid (NumsAt .i64 w v l) := hv
  have HL : Hid _ := hl
  have HO : Hid _ := hown
  clear hv hl hown
  go_enter Try.func26, Try.ntmps26
  go_wp2_with fail
  refine (lent_any HV.out HL.out hlen).mono ?_
  rintro e w1 ⟨rfl, hown1, hB1⟩
  have HB0 : Hid (Back w w1 B g w.heap.size (full l) 0) := ⟨⟨_, by rw [full_len]; exact own_below HO.out hB1, fun j _ => rfl⟩, fun j x hx => by
    have hj : j < (full l).length := by
      rcases Nat.lt_or_ge j (full l).length with e | e
      · exact e
      · rw [List.getElem?_eq_none e] at hx; cases hx
    rw [hown1.cellAt j (by rw [← full_len]; omega)]
    unfold vals
    rw [List.getElem?_map, hx]; rfl, Keeps.of_below hB1, hB1.mono (by omega), fun j _ hl => hB1.block j hl⟩
  clear hown1 hB1
  have hfl := full_len l
  have HFL : Hid _ := hfl
  clear hfl
  go_wp2
  go_loopw [6, 7] (fun so c wr => ∃ k : Nat, k ≤ l.length + 8 ∧ c = .int .i64 k ∧ so = .bool true ∧ Hid (Back w wr B g w.heap.size (full l) k)) (fun _ c _ => l.length + 8 - (intOf c).toNat)
  case atStart => exact ⟨0, Nat.zero_le _, rfl, rfl, HB0.out⟩
  case round =>
    clear HB0
    obtain ⟨k, hk, rfl, rfl, HI⟩ := hrel
    by_cases hlt : k < l.length + 8
    · obtain ⟨x, hx⟩ := some_at' (show k < (full l).length by rw [HFL.out]; exact hlt)
      obtain ⟨hc, hf⟩ := HI.out.cell hx
      have hw := HI.out.want k x hx
      have hk1 : (k : Int) < ((l.length + 8 : Nat) : Int) := by omega
      have hk2 : (k : Int) < (l.length : Int) + 8 := by omega
      have HX : Hid ((full l)[k]? = some x) := hx
      clear hx
      go_wp2
      go_quiet (fail)
      go_wp2
      go_roundw
      case rel => exact ⟨k + 1, by omega, by go_num, by simp, (HI.out.drewN _).next HX.out (by omega) _⟩
      case measure => simp [intOf]; omega
    · obtain rfl : k = l.length + 8 := by omega
      go_wp2
      go_ret
      exact ⟨rfl, HI.out.keeps, HI.out.bel, HI.out.els⟩
/-! ### what stays -/
theorem bits_keeps {w w' : World} {b bw ba n : Nat} {f : Nat → Bool} {W : Nat → Nat} (hb : BitsAt w b bw ba f n W) (h : Keeps w w') : BitsAt w' b bw ba f n W :=
  ⟨hb.hn, h _ _ hb.len (by simp), h _ _ hb.ones (by simp), h _ _ hb.words (by simp), h _ _ hb.ahead (by simp), fun j hj => h _ _ (hb.word j hj) (by simp), fun j hj => h _ _ (hb.ahd j hj) (by simp), hb.wlt, hb.wbit, hb.out⟩
theorem seq_keeps {B : Nat} {w w' : World} {b g : Nat} {l : List Nat} (hs : SeqAt B w b g l) (h : Keeps w w') : SeqAt B w' b g l :=
  ⟨hs.hn, hs.lt, h _ _ hs.len (by simp), h _ _ hs.levels (by simp), fun d hd => by
    obtain ⟨bb, bw, ba, W, h1, h2⟩ := hs.level d hd
    exact ⟨bb, bw, ba, W, h _ _ h1 (by simp), bits_keeps h2 h⟩⟩
theorem nums_keeps {w w' : World} {v : Value} {l : List Nat} (h : NumsAt .i64 w v l) (hk : Keeps w w') : NumsAt .i64 w' v l := by
  obtain ⟨a0, cap, hv, h⟩ := h
  refine ⟨a0, cap, hv, ?_⟩
  rcases h with h | ⟨g, off, hg, hc⟩
  · exact .inl h
  · exact .inr ⟨g, off, hg, fun j x hj => hk _ _ (hc j x hj) (by simp)⟩
theorem own_else {w w' : World} {B : Nat} {e : TypeId} {n c g g2 : Nat} {xs : List Value} (h : w.ownsRow B e 1 (.slice (some ⟨g2, 0, none⟩) n c) n xs) (hg : g2 ≠ g) (hl : g2 < w.heap.size) (hE : ∀ j, j ≠ g → j < w.heap.size → w'.heap[j]? = w.heap[j]?) : w'.ownsRow B e 1 (.slice (some ⟨g2, 0, none⟩) n c) n xs := by
  refine ⟨h.1, ?_⟩
  rcases h.2 with h0 | ⟨g3, cap, cur, hv, hb, hg3, r⟩
  · exact .inl h0
  · refine .inr ⟨g3, cap, cur, hv, hb, ?_, r⟩
    have : g3 = g2 := by simp at hv; exact hv.1.symm
    subst this
    rw [hE g3 hg hl]; exact hg3
/-- the numbers alone, without the eight behind them -/
theorem nums_pre {w : World} {B g n : Nat} {l : List Nat} (h : w.ownsRow B 5 1 (.slice (some ⟨g, 0, none⟩) (l.length + 8) (l.length + 8)) (l.length + 8) (vals .u8 (full l))) (hn : n = l.length) : NumsAt .u8 w (.slice (some ⟨g, 0, none⟩) n (n + 8)) l := by
  subst hn
  refine ⟨_, _, rfl, .inr ⟨g, 0, rfl, fun j x hj => ?_⟩⟩
  have hjl : j < l.length := by
    rcases Nat.lt_or_ge j l.length with e | e
    · exact e
    · rw [List.getElem?_eq_none e] at hj; cases hj
  rw [Nat.zero_add, h.cellAt j (by omega)]
  unfold vals
  rw [List.getElem?_map, full_old hj]; rfl
/-- what NewSeq answers -/
def MadeSeq (w : World) (p : Value) (e : Int) (l : List Nat) : Prop :=
  (l.length ≤ 100000 ∧ e = 0 ∧ ∃ b g, p = .pointer (some ⟨b, 0, none⟩) ∧ SeqAt 8 w b g l) ∨ (100000 < l.length ∧ e = 2 ∧ p = .pointer none)
theorem MadeSeq.below {w w' : World} {p : Value} {e : Int} {l : List Nat} (h : MadeSeq w p e l) (hB : Below w.heap.size w w') : MadeSeq w' p e l := by
  rcases h with ⟨h1, h2, b, g, h3, h4⟩ | h
  · exact .inl ⟨h1, h2, b, g, h3, h4.below hB⟩
  · exact .inr h
theorem newseq_all {w : World} {v : Value} {l : List Nat} (hv : NumsAt .u8 w v l) (hl : ∀ x ∈ l, x < 2 ^ 8) :
    Calls Try.prog 20 #[v] w fun e w' => ∃ p ec, e = .returned (.tuple #[p, .int .i64 ec]) ∧ MadeSeq w' p ec l ∧ Below w.heap.size w w' := by
  by_cases hn : l.length ≤ 100000
  · refine (newseq_any hv hl hn).mono ?_
    rintro e w' ⟨b, g, rfl, h1, h2⟩
    exact ⟨_, _, rfl, .inl ⟨hn, rfl, b, g, rfl, h1⟩, h2⟩
  · obtain ⟨a0, cap, rfl, _⟩ := hv.open
    refine (newseq_long (by omega)).mono ?_
    rintro e w' ⟨rfl, rfl⟩
    exact ⟨_, _, rfl, .inr ⟨by omega, rfl, rfl⟩, Below.refl _ _⟩
end Go.Proofs.Ytphjbbbnbmafnaa.S8
