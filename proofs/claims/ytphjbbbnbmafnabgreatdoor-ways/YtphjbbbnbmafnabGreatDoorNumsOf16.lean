/-
  succ.bitsOfNumbers and succ.zerosFirst over a list of numbers of 16 bits in memory: the vector of one of their bits; the list with those whose bit is 0 ahead of those whose bit is 1; both in new memory. The list's reading is the one condition.
  succ.NewSeq over a list of numbers of 16 bits in memory: of at most 100000 numbers it makes the sequence, level by level, in new memory, and answers OK; of more it answers nil and ErrInput; nothing that was there is written. The list's reading is the one condition.
  The program's numbersOf at numbers of 16 bits: the ends of edges, a new list; nothing that was there is written.
-/
import Derived.Test.YtphjbbbnbmafnabGreatDoorNums
import Derived.Test.YtphjbbbnbmafnabGreatDoorLeast16
import Derived.Test.YtphjbbbnbmafnabGreatDoorEqE
import Derived.Test.YtphjbbbnbmafnabGreatDoorGBits
namespace Go.Proofs.YtphjbbbnbmafnabGreatDoor.S16
open Go.RowKit Go.Proofs.YtphjbbbnbmafnabGreatDoor

theorem Tryz.infoW : (Tryz.prog.info? 104).map (fun i => (i.zero, i.size, i.bytes)) = some (some (.int .u16 0), 1, 16 / 8) := by kernel_rfl
theorem bitf_get {l : List Nat} {k x h : Nat} (hx : l[k]? = some x) : bitf l h k = x.testBit h := bitf_at hx
theorem lt_of {l : List Nat} {k x : Nat} (hl : ∀ x ∈ l, x < 2 ^ 16) (hx : l[k]? = some x) : x < 2 ^ 16 := hl x (List.mem_of_getElem? hx)

set_option maxHeartbeats 2000000 in
set_option maxRecDepth 100000 in
theorem bon_any {w : World} {v : Value} {l : List Nat} (hv : NumsAt .u16 w v l) (hl : ∀ x ∈ l, x < 2 ^ 16) (hn : l.length ≤ 100000) (d : Nat) (hd : d < 16) :
    Calls Tryz.prog 81 #[v, .int .u16 (bitv 16 d)] w fun e w' => ∃ b bw ba W, e = .returned (.pointer (some ⟨b, 0, none⟩)) ∧ BitsAt w' b bw ba (bitf l (16 - 1 - d)) l.length W ∧ Below w.heap.size w w' := by
  obtain ⟨a0, cap, rfl, hc⟩ := hv.open
  have HC : Hid _ := hc
  have HL : Hid _ := hl
  clear hc hv hl
  obtain ⟨i0, hi, hz0, hz1, hz2⟩ := info_parts Tryz.info112
  go_enter Tryz.func81, Tryz.ntmps81
  go_wp2_with (at_make; refine wpList_make_full _ rfl _ _ 151 rfl w.heap.size 112 i0 (.int .u64 0) 1 Tryz.underlying151 hi hz0 hz1 _ _ _ _ (l.length / 64 + 1) rfl rfl (by omega) (by omega) (by rw [hz2]; omega) (by unfold maxLen; omega) (Nat.le_refl _) ?_; intro w1 hown hgrow)
  have hb1 : Below w.heap.size w w1 := (Below.refl _ _).grown hgrow (Nat.le_refl _) (fun k hk => by cases hk)
  have hst := words_start (bitf l (16 - 1 - d)) (l.length / 64 + 1)
  generalize (madeCells (Value.int IntKind.u64 0).cells ((l.length / 64 + 1) * 1)).toList = xs0 at hown hst
  clear hgrow
  go_loopw [15] (fun c wr => RelW (bitf l (16 - 1 - d)) l.length w c wr) (fun c _ => l.length - (intOf c).toNat)
  case atStart => exact ⟨0, xs0, Nat.zero_le _, rfl, hown, hb1, hst⟩
  case round =>
    clear hown hst hb1
    obtain ⟨k, xs, hk, rfl, hown, hbel, hwo⟩ := hrel
    have HO : Hid _ := hown
    have HW : Hid _ := hwo
    have HB : Hid _ := hbel
    by_cases hlt : k < l.length
    · obtain ⟨X, hcell, hfr, HX⟩ := word_cell hlt hown hwo
      obtain ⟨x, hx⟩ := some_at' hlt
      obtain ⟨g, off, rfl, hxc⟩ := HC.out k x hx
      have hxc1 := cell_kept hbel _ _ hxc
      have hA := and_bit x d (lt_of HL.out hx) hd
      have HF : Hid _ := bitf_get (h := 16 - 1 - d) hx
      clear hown hwo hbel hxc hx
      have hk1 : (k : Int) / 64 < ((l.length / 64 + 1 : Nat) : Int) := by omega
      have hk2 : (k : Int) / 64 < (l.length : Int) / 64 + 1 := by omega
      have hk3 : (k : Int) < (l.length : Int) := by omega
      cases hbit : x.testBit (16 - 1 - d)
      · rw [hbit] at hA HF
        clear hbit
        go_wp2
        go_roundw
        case rel => exact ⟨k + 1, xs, by omega, by go_num, HO.out, HB.out, words_keep HW.out HF.out⟩
        case measure => simp [intOf]; omega
      · rw [hbit] at hA HF
        clear hbit
        go_wp2
        go_region
        go_wp2
        go_roundw
        case rel => exact relw_set hlt HF.out HO.out HW.out HB.out HX.out
        case measure => simp [intOf]; omega
    · obtain rfl : k = l.length := by omega
      clear hown hwo hbel
      go_wp2_with (go_at_call 74; refine (bow_of hn (bitf_out l _) HO.out HW.out).mono ?_; rintro e w' ⟨b, ba, rfl, hbits, hnew⟩)
      go_ret
      exact ⟨b, _, ba, _, rfl, hbits, HB.out.trans (hnew.mono HB.out.size)⟩

/-! ### zerosFirst -/
theorem and_eq0 (c d : Nat) (hc : c < 2 ^ 16) (hd : d < 16) : (bits .and .u16 (c : Int) (bitv 16 d) == 0) = (c.testBit (16 - 1 - d) == false) := by
  have h := and_bit c d hc hd
  rw [bne] at h
  rw [← h]
  cases (bits .and .u16 (c : Int) (bitv 16 d) == 0) <;> rfl
theorem and_eqb (c d : Nat) (hc : c < 2 ^ 16) (hd : d < 16) : (bits .and .u16 (c : Int) (bitv 16 d) == bitv 16 d) = (c.testBit (16 - 1 - d) == true) := by
  unfold bitv
  rw [u16_and_nat c _ hc (Nat.pow_lt_pow_right (by decide) (show 16 - 1 - d < 16 by omega))]
  have hp : 0 < 2 ^ (16 - 1 - d) := Nat.two_pow_pos _
  have e : c &&& 2 ^ (16 - 1 - d) = (c.testBit (16 - 1 - d)).toNat * 2 ^ (16 - 1 - d) := by
    rw [nat_bit, Nat.testBit_eq_decide_div_mod_eq]
    have : c / 2 ^ (16 - 1 - d) % 2 < 2 := Nat.mod_lt _ (by decide)
    rcases (show c / 2 ^ (16 - 1 - d) % 2 = 0 ∨ c / 2 ^ (16 - 1 - d) % 2 = 1 by omega) with e | e <;> rw [e] <;> simp
  rw [e]
  generalize 2 ^ (16 - 1 - d) = m at *
  cases c.testBit (16 - 1 - d)
  · simp; omega
  · simp
/-- the list so far: the sides that are done, and the first k of the side at hand -/
def soFar (l : List Nat) (h : Nat) (s : Bool) (k : Nat) : List Nat := (if s then l.filter (fun x => x.testBit h == false) else []) ++ (l.take k).filter (fun x => x.testBit h == s)
theorem soFar_next {l : List Nat} {h : Nat} {s : Bool} {k x : Nat} (hx : l[k]? = some x) : soFar l h s (k + 1) = soFar l h s k ++ (if x.testBit h == s then [x] else []) := by
  unfold soFar
  rw [List.take_add_one, hx, List.filter_append, ← List.append_assoc]
  congr 1
  simp only [Option.toList_some, List.filter_cons, List.filter_nil]
theorem soFar_len (l : List Nat) (h : Nat) (s : Bool) (k : Nat) : (soFar l h s k).length ≤ 2 * l.length := by
  unfold soFar
  rw [List.length_append]
  have h1 := List.length_filter_le (fun x => x.testBit h == false) l
  have h2 := List.length_filter_le (fun x => x.testBit h == s) (l.take k)
  have h3 : (l.take k).length ≤ l.length := by simp; omega
  cases s
  · simp only [Bool.false_eq_true, if_false, List.length_nil]; omega
  · simp only [if_true]; omega
theorem soFar_turn (l : List Nat) (h : Nat) : soFar l h false l.length = soFar l h true 0 := by unfold soFar; simp
theorem soFar_end (l : List Nat) (h : Nat) : soFar l h true l.length = part h l := by unfold soFar part; simp
theorem soFar_start (l : List Nat) (h : Nat) : soFar l h false 0 = [] := by unfold soFar; simp

/-- the list at the beginning of each side -/
def stage (l : List Nat) (h s : Nat) : List Nat := if s = 0 then [] else if s = 1 then soFar l h true 0 else part h l
/-- a row of one's own that reads as a list -/
def OwnN (w wr : World) (v : Value) (l : List Nat) : Prop := wr.ownsRow w.heap.size 104 1 v l.length (vals .u16 l) ∧ Below w.heap.size w wr
theorem own_snoc {w wr w2 : World} {v v' : Value} {l : List Nat} {x : Nat} {o : Obj} (h : OwnN w wr v l) (hown : w2.ownsRow w.heap.size 104 1 v' (l.length + 1) (vals .u16 l ++ [.int .u16 (x : Int)])) (hg : (wr.alloc o).grownBy w2 v.ownBlock) : OwnN w w2 v' (l ++ [x]) := by
  refine ⟨by rw [vals_snoc, List.length_append]; exact hown, ?_⟩
  exact (h.2.alloc h.2.size o).grown hg (by have := h.2.size; simp; omega) (fun j hj => (h.1.lt j hj).1)

set_option maxHeartbeats 4000000 in
set_option maxRecDepth 100000 in
theorem zf_any {w : World} {v : Value} {l : List Nat} (hv : NumsAt .u16 w v l) (hl : ∀ x ∈ l, x < 2 ^ 16) (hn : l.length ≤ 100000) (d : Nat) (hd : d < 16) :
    Calls Tryz.prog 82 #[v, .int .u16 (bitv 16 d)] w fun e w' => ∃ v', e = .returned v' ∧ NumsAt .u16 w' v' (part (16 - 1 - d) l) ∧ Below w.heap.size w w' := by
  obtain ⟨a0, cap, rfl, hc⟩ := hv.open
  have HC : Hid _ := hc
  have HL : Hid _ := hl
  clear hc hv hl
  obtain ⟨i0, hi, hz0, hz1, hz2⟩ := info_parts Tryz.infoW
  have x0 : ∀ w, (Instr.index 186 (.agg #[.int .u16 0, .int .u16 (bitv 16 d)]) (.int .i64 0)).run Tryz.prog w = .ok (.int .u16 0) w := fun _ => by kernel_rfl
  have x1 : ∀ w, (Instr.index 186 (.agg #[.int .u16 0, .int .u16 (bitv 16 d)]) (.int .i64 1)).run Tryz.prog w = .ok (.int .u16 (bitv 16 d)) w := fun _ => by kernel_rfl
  go_enter Tryz.func82, Tryz.ntmps82
  go_wp2_with (at_make; refine wpList_make_own _ rfl _ _ 105 rfl w.heap.size 104 i0 (.int .u16 0) 1 Tryz.underlying105 hi hz0 hz1 _ _ _ l.length rfl rfl (by omega) (by rw [hz2]; omega) (by unfold maxLen; omega) (Nat.le_refl _) ?_; intro w1 hown hgrow)
  have hb1 : Below w.heap.size w w1 := (Below.refl _ _).grown hgrow (Nat.le_refl _) (fun k hk => by cases hk)
  clear hgrow
  go_loopw [5, 15] (fun v c wr => ∃ s : Nat, s ≤ 2 ∧ c = .int .i64 s ∧ OwnN w wr v (stage l (16 - 1 - d) s)) (fun _ c _ => 2 - (intOf c).toNat)
  case atStart => exact ⟨0, Nat.zero_le _, rfl, hown, hb1⟩
  case round =>
    clear hown hb1
    obtain ⟨s, hs, rfl, hown⟩ := hrel
    rcases (show s = 0 ∨ s = 1 ∨ s = 2 by omega) with rfl | rfl | rfl
    · have HO0 : Hid _ := hown
      rw [show ((0 : Nat) : Int) = 0 from rfl]
      go_wp2
      go_loopw [5, 20] (fun v c wr => ∃ k : Nat, k ≤ l.length ∧ c = .int .i64 k ∧ OwnN w wr v (soFar l (16 - 1 - d) false k)) (fun _ c _ => l.length - (intOf c).toNat)
      case atStart => exact ⟨0, Nat.zero_le _, rfl, by rw [soFar_start]; exact HO0.out⟩
      case round =>
        clear hown
        obtain ⟨k, hk, rfl, hown⟩ := hrel
        by_cases hlt : k < l.length
        · obtain ⟨x, hx⟩ := some_at' hlt
          obtain ⟨g, off, rfl, hxc⟩ := HC.out k x hx
          have hxc1 := cell_kept hown.2 _ _ hxc
          have hA := and_eq0 x d (lt_of HL.out hx) hd
          have hN := soFar_next (h := 16 - 1 - d) (s := false) hx
          have hk3 : (k : Int) < (l.length : Int) := by omega
          have hsl := soFar_len l (16 - 1 - d) false k
          cases hbit : (x.testBit (16 - 1 - d) == false)
          · rw [hbit] at hA hN
            rw [if_neg (by decide), List.append_nil] at hN
            have HN : Hid _ := hN
            have HO : Hid _ := hown
            clear hbit hN hx hxc hown hsl
            go_wp2
            go_roundw
            case rel => exact ⟨k + 1, by omega, by go_num, by rw [HN.out]; exact HO.out⟩
            case measure => simp [intOf]; omega
          · rw [hbit] at hA hN
            rw [if_pos rfl] at hN
            have HN : Hid _ := hN
            have HO : Hid _ := hown
            have hrow := hown.1
            have hsz := hown.2.size
            clear hbit hN hx hxc hown
            go_wp2_with (at_builtin; refine wpList_append_own _ rfl _ _ 105 rfl w.heap.size 104 i0 (.int .u16 0) 1 (16 / 8) Tryz.underlying105 hi hz0 hz1 hz2 rfl (by decide) _ _ _ rfl (hrow.alloc _) ⟨wr.heap.size, 0, none⟩ 1 1 [.int .u16 (x : Int)] rfl rfl ?c1 ?c2 ?c3 ?c4 ?c5 ?_)
            case c1 =>
              intro j u hj
              match j, hj with
              | 0, hj => simp at hj; subst hj; simp [Addr.add]
            case c2 => intro u hu; simp at hu; subst hu; rfl
            case c3 => unfold maxLen; omega
            case c4 => omega
            case c5 => simp; omega
            intro v' w2 hown' hgrow _
            have HO2 : Hid _ := own_snoc HO.out hown' hgrow
            clear hown' hgrow hrow
            go_wp2
            go_roundw
            case rel => exact ⟨k + 1, by omega, by go_num, by rw [HN.out]; exact HO2.out⟩
            case measure => simp [intOf]; omega
        · obtain rfl : k = l.length := by omega
          have HO : Hid _ := hown
          clear hown
          go_wp2
          go_roundw
          case rel => exact ⟨1, by omega, by go_num, by rw [soFar_turn] at HO; exact HO.out⟩
          case measure => simp [intOf]
    · have HO0 : Hid _ := hown
      rw [show ((1 : Nat) : Int) = 1 from rfl]
      go_wp2
      go_loopw [5, 20] (fun v c wr => ∃ k : Nat, k ≤ l.length ∧ c = .int .i64 k ∧ OwnN w wr v (soFar l (16 - 1 - d) true k)) (fun _ c _ => l.length - (intOf c).toNat)
      case atStart => exact ⟨0, Nat.zero_le _, rfl, HO0.out⟩
      case round =>
        clear hown
        obtain ⟨k, hk, rfl, hown⟩ := hrel
        by_cases hlt : k < l.length
        · obtain ⟨x, hx⟩ := some_at' hlt
          obtain ⟨g, off, rfl, hxc⟩ := HC.out k x hx
          have hxc1 := cell_kept hown.2 _ _ hxc
          have hA := and_eqb x d (lt_of HL.out hx) hd
          have hN := soFar_next (h := 16 - 1 - d) (s := true) hx
          have hk3 : (k : Int) < (l.length : Int) := by omega
          have hsl := soFar_len l (16 - 1 - d) true k
          cases hbit : (x.testBit (16 - 1 - d) == true)
          · rw [hbit] at hA hN
            rw [if_neg (by decide), List.append_nil] at hN
            have HN : Hid _ := hN
            have HO : Hid _ := hown
            clear hbit hN hx hxc hown hsl
            go_wp2
            go_roundw
            case rel => exact ⟨k + 1, by omega, by go_num, by rw [HN.out]; exact HO.out⟩
            case measure => simp [intOf]; omega
          · rw [hbit] at hA hN
            rw [if_pos rfl] at hN
            have HN : Hid _ := hN
            have HO : Hid _ := hown
            have hrow := hown.1
            have hsz := hown.2.size
            clear hbit hN hx hxc hown
            go_wp2_with (at_builtin; refine wpList_append_own _ rfl _ _ 105 rfl w.heap.size 104 i0 (.int .u16 0) 1 (16 / 8) Tryz.underlying105 hi hz0 hz1 hz2 rfl (by decide) _ _ _ rfl (hrow.alloc _) ⟨wr.heap.size, 0, none⟩ 1 1 [.int .u16 (x : Int)] rfl rfl ?c1 ?c2 ?c3 ?c4 ?c5 ?_)
            case c1 =>
              intro j u hj
              match j, hj with
              | 0, hj => simp at hj; subst hj; simp [Addr.add]
            case c2 => intro u hu; simp at hu; subst hu; rfl
            case c3 => unfold maxLen; omega
            case c4 => omega
            case c5 => simp; omega
            intro v' w2 hown' hgrow _
            have HO2 : Hid _ := own_snoc HO.out hown' hgrow
            clear hown' hgrow hrow
            go_wp2
            go_roundw
            case rel => exact ⟨k + 1, by omega, by go_num, by rw [HN.out]; exact HO2.out⟩
            case measure => simp [intOf]; omega
        · obtain rfl : k = l.length := by omega
          have HO : Hid _ := hown
          clear hown
          go_wp2
          go_roundw
          case rel => exact ⟨2, by omega, by go_num, by rw [soFar_end] at HO; exact HO.out⟩
          case measure => simp [intOf]
    · have HO : Hid _ := hown
      clear hown
      go_wp2
      go_ret
      exact ⟨_, rfl, nums_own HO.out.1, HO.out.2⟩
end Go.Proofs.YtphjbbbnbmafnabGreatDoor.S16

namespace Go.Proofs.YtphjbbbnbmafnabGreatDoor.S16
open Go.RowKit Go.Proofs.YtphjbbbnbmafnabGreatDoor

theorem Tryz.infoP : (Tryz.prog.info? 57).map (fun i => (i.zero, i.size, i.bytes)) = some (some (.pointer none), 1, 8) := by kernel_rfl
theorem set_np {w : World} {g d : Nat} {q0 : Option Addr} (h : w.cell? ⟨g, d, none⟩ = some (.pointer q0)) (u : Value) (p : Addr) (v : Value) (hp : w.cell? p = some v) (hv : ∀ q, v ≠ .pointer q) : (w.setCell ⟨g, d, none⟩ u).cell? p = some v := by
  rw [World.cell?_setCell_other w ⟨g, d, none⟩ p u (fun e => by subst e; rw [h] at hp; cases hp; exact hv _ rfl)]
  exact hp
theorem bits_np {w w' : World} {b bw ba n : Nat} {f : Nat → Bool} {W : Nat → Nat} (hb : BitsAt w b bw ba f n W) (h : ∀ p v, w.cell? p = some v → (∀ q, v ≠ .pointer q) → w'.cell? p = some v) : BitsAt w' b bw ba f n W :=
  ⟨hb.hn, h _ _ hb.len (by simp), h _ _ hb.ones (by simp), h _ _ hb.words (by simp), h _ _ hb.ahead (by simp), fun j hj => h _ _ (hb.word j hj) (by simp), fun j hj => h _ _ (hb.ahd j hj) (by simp), hb.wlt, hb.wbit, hb.out⟩
theorem nums_np {K : IntKind} {w w' : World} {v : Value} {l : List Nat} (h : NumsAt K w v l) (hk : ∀ p v, w.cell? p = some v → (∀ q, v ≠ .pointer q) → w'.cell? p = some v) : NumsAt K w' v l := by
  obtain ⟨a0, cap, hv, h⟩ := h
  refine ⟨a0, cap, hv, ?_⟩
  rcases h with h | ⟨g, off, hg, hc⟩
  · exact .inl h
  · exact .inr ⟨g, off, hg, fun j x hj => hk _ _ (hc j x hj) (by simp)⟩
theorem own_below {w w' : World} {B : Nat} {e : TypeId} {v : Value} {n : Nat} {xs : List Value} (h : w.ownsRow B e 1 v n xs) (hB : Below w.heap.size w w') : w'.ownsRow B e 1 v n xs := by
  refine ⟨h.1, ?_⟩
  rcases h.2 with h0 | ⟨g, cap, cur, hv, hb, hg, r⟩
  · exact .inl h0
  · refine .inr ⟨g, cap, cur, hv, hb, ?_, r⟩
    rw [hB.block g (by
      rcases Nat.lt_or_ge g w.heap.size with h | h
      · exact h
      · rw [Array.getElem?_eq_none h] at hg; cases hg)]
    exact hg

/-- the levels so far: the first d are laid, the others are nil -/
structure Levels (w wr : World) (l : List Nat) (g b : Nat) (d : Nat) (v : Value) : Prop where
  bel : Below w.heap.size w wr
  len : wr.cell? ⟨b, 0, none⟩ = some (.int .i64 (l.length : Int))
  levels : wr.cell? ⟨b, 1, none⟩ = some (.slice (some ⟨g, 0, none⟩) 16 16)
  nums : NumsAt .u16 wr v (lev 16 l d)
  row : ∃ xs, wr.ownsRow w.heap.size 57 1 (.slice (some ⟨g, 0, none⟩) 16 16) 16 xs ∧ (∀ j, j < 16 → ∃ q, xs[j]? = some (.pointer q)) ∧
    ∀ j, j < d → ∃ bb bw ba W, xs[j]? = some (.pointer (some ⟨bb, 0, none⟩)) ∧ BitsAt wr bb bw ba (bitf (lev 16 l j) (16 - 1 - j)) l.length W
theorem Levels.cell {w wr : World} {l : List Nat} {g b d : Nat} {v : Value} (h : Levels w wr l g b d v) (hd : d < 16) : ∃ q, wr.cell? ⟨g, d, none⟩ = some (.pointer q) ∧ wr.frozen? ⟨g, d, none⟩ = false := by
  obtain ⟨xs, h1, h2, _⟩ := h.row
  obtain ⟨q, hq⟩ := h2 d hd
  exact ⟨q, (h1.cellAt d (by omega)).trans hq, h1.frozenAt d⟩
theorem Levels.below {w wr w2 : World} {l : List Nat} {g b d : Nat} {v : Value} (h : Levels w wr l g b d v) (hB : Below wr.heap.size wr w2) : Levels w w2 l g b d v := by
  refine ⟨chain h.bel hB, cell_kept hB _ _ h.len, cell_kept hB _ _ h.levels, h.nums.below hB, ?_⟩
  obtain ⟨xs, h1, h2, h3⟩ := h.row
  refine ⟨xs, own_below h1 hB, h2, fun j hj => ?_⟩
  obtain ⟨bb, bw, ba, W, h4, h5⟩ := h3 j hj
  exact ⟨bb, bw, ba, W, h4, h5.below hB⟩
theorem Levels.stored {w wr : World} {l : List Nat} {g b d : Nat} {v : Value} (h : Levels w wr l g b d v) (hd : d < 16) (hg : w.heap.size ≤ g) {bb bw ba : Nat} {W : Nat → Nat} (hb : BitsAt wr bb bw ba (bitf (lev 16 l d) (16 - 1 - d)) l.length W) {v2 : Value} {w2 : World}
    (hB : Below (wr.setCell ⟨g, d, none⟩ (.pointer (some ⟨bb, 0, none⟩))).heap.size (wr.setCell ⟨g, d, none⟩ (.pointer (some ⟨bb, 0, none⟩))) w2) (hv2 : NumsAt .u16 w2 v2 (lev 16 l (d + 1))) : Levels w w2 l g b (d + 1) v2 := by
  obtain ⟨q, hq, _⟩ := h.cell hd
  have hk := set_np hq (.pointer (some ⟨bb, 0, none⟩))
  obtain ⟨xs, h1, h2, h3⟩ := h.row
  have hst := (h1.stored d (.pointer (some ⟨bb, 0, none⟩))).1
  have hxl : xs.length = 16 := by have := h1.1; omega
  refine ⟨chain (h.bel.setCell (p := ⟨g, d, none⟩) hg _) hB, cell_kept hB _ _ (hk _ _ h.len (by simp)), cell_kept hB _ _ (hk _ _ h.levels (by simp)), hv2, xs.set d (.pointer (some ⟨bb, 0, none⟩)), own_below hst hB, ?_, ?_⟩
  · intro j hj
    by_cases e : j = d
    · subst e; exact ⟨_, List.getElem?_set_self (by omega)⟩
    · rw [List.getElem?_set_ne (by omega)]; exact h2 j hj
  · intro j hj
    by_cases e : j = d
    · subst e; exact ⟨bb, bw, ba, W, List.getElem?_set_self (by omega), (bits_np hb hk).below hB⟩
    · rw [List.getElem?_set_ne (by omega)]
      obtain ⟨b1, b2, b3, W1, h4, h5⟩ := h3 j (by omega)
      exact ⟨b1, b2, b3, W1, h4, (bits_np h5 hk).below hB⟩
theorem Levels.done {w wr : World} {l : List Nat} {g b : Nat} {v : Value} (h : Levels w wr l g b 16 v) (hn : l.length ≤ 100000) (hl : ∀ x ∈ l, x < 2 ^ 16) : SeqAt 16 wr b g l := by
  obtain ⟨xs, h1, _, h3⟩ := h.row
  refine ⟨hn, hl, h.len, h.levels, fun d hd => ?_⟩
  obtain ⟨bb, bw, ba, W, h4, h5⟩ := h3 d hd
  exact ⟨bb, bw, ba, W, (h1.cellAt d (by omega)).trans h4, h5⟩

set_option maxHeartbeats 400000 in
theorem bitAt_raw {w : World} {b g : Nat} (h1 : w.cell? ⟨b, 1, none⟩ = some (.slice (some ⟨g, 0, none⟩) 16 16)) (d : Nat) (hd : d < 16) :
    Calls Tryz.prog 80 #[.pointer (some ⟨b, 0, none⟩), .int .i64 (d : Int)] w fun e w' => e = .returned (.int .u16 (bitv 16 d)) ∧ w' = w := by
  go_enter Tryz.func80, Tryz.ntmps80
  go_wp2
  go_ret
  refine ⟨ret1_int ?_, rfl⟩
  have hp : 2 ^ (16 - 1 - d) < 2 ^ 16 := Nat.pow_lt_pow_right (by decide) (by omega)
  unfold bitv
  rw [← two_pow_int]
  try rw [IntKind.wrap_u16]
  simp only [Nat.reducePow, Nat.reduceSub] at hp ⊢
  generalize 2 ^ _ = m at *
  omega
set_option maxHeartbeats 400000 in
set_option maxRecDepth 100000 in
theorem len16_any (w : World) : Calls Tryz.prog 75 #[.int .u16 65535] w fun e w' => e = .returned (.int .i64 16) ∧ w' = w := by
  go_enter Tryz.func75, Tryz.ntmps75
  go_wp2
  go_ret
  exact ⟨by kernel_rfl, rfl⟩
set_option maxHeartbeats 400000 in
theorem newseq_long {w : World} {a0 : Option Addr} {n cap : Nat} (hn : 100000 < n) :
    Calls Tryz.prog 50 #[.slice a0 n cap] w fun e w' => e = .returned (.tuple #[.pointer none, .int .i64 2]) ∧ w' = w := by
  have h1 : (100000 : Int) < (n : Int) := by omega
  go_enter Tryz.func50, Tryz.ntmps50
  go_wp2
  go_ret2
  exact ⟨rfl, rfl⟩
theorem made_nil (j : Nat) (hj : j < 16) : ∃ q, (madeCells (Value.pointer none).cells (16 * 1)).toList[j]? = some (.pointer q) := by
  refine ⟨none, ?_⟩
  show (madeCells #[Value.pointer none] (16 * 1)).toList[j]? = _
  rw [toList_madeCells_one, List.getElem?_replicate, if_pos (by omega)]
set_option maxHeartbeats 4000000 in
set_option maxRecDepth 100000 in
theorem newseq_any {w : World} {v : Value} {l : List Nat} (hv : NumsAt .u16 w v l) (hl : ∀ x ∈ l, x < 2 ^ 16) (hn : l.length ≤ 100000) :
    Calls Tryz.prog 50 #[v] w fun e w' => ∃ b g, e = .returned (.tuple #[.pointer (some ⟨b, 0, none⟩), .int .i64 0]) ∧ SeqAt 16 w' b g l ∧ Below w.heap.size w w' := by
  obtain ⟨a0, cap, rfl, hdrop⟩ := hv.open
  clear hdrop
  have HV : Hid (NumsAt .u16 w (.slice a0 l.length cap) l) := hv
  have HL : Hid _ := hl
  clear hv hl
  obtain ⟨i0, hi, hz0, hz1, hz2⟩ := info_parts Tryz.infoP
  go_enter Tryz.func50, Tryz.ntmps50
  go_wp2_with fail
  refine (len16_any _).mono ?_
  rintro e w0 ⟨rfl, hw⟩
  rw [hw]
  clear hw w0
  go_wp2_with (at_make; refine wpList_make_full _ rfl _ _ 153 rfl w.heap.size 57 i0 (.pointer none) 1 Tryz.underlying153 hi hz0 hz1 _ _ _ _ 16 rfl rfl (by omega) (by omega) (by rw [hz2]; omega) (by unfold maxLen; omega) (Nat.le_refl _) ?_; intro w1 hown hgrow)
  have hb1 : Below w.heap.size w w1 := (Below.refl _ _).grown hgrow (Nat.le_refl _) (fun k hk => by cases hk)
  have hnew : Below w1.heap.size w1 (w1.alloc (.cells #[.int .i64 (l.length : Int), .slice (some ⟨w.heap.size, 0, none⟩) 16 16] 160)) := (Below.refl _ _).alloc (Nat.le_refl _) _
  have HL0 : Hid (Levels w (w1.alloc (.cells #[.int .i64 (l.length : Int), .slice (some ⟨w.heap.size, 0, none⟩) 16 16] 160)) l w.heap.size w1.heap.size 0 (.slice a0 l.length cap)) :=
    ⟨chain hb1 hnew, by simp, by simp, (HV.out.below hb1).below hnew, _, own_below hown hnew, made_nil, fun j hj => absurd hj (Nat.not_lt_zero _)⟩
  clear hnew hown hgrow hb1
  go_loopw [0, 23] (fun v c wr => ∃ d : Nat, d ≤ 16 ∧ c = .int .i64 d ∧ Hid (Levels w wr l w.heap.size w1.heap.size d v)) (fun _ c _ => 16 - (intOf c).toNat)
  case atStart => exact ⟨0, Nat.zero_le _, rfl, HL0.out⟩
  case round =>
    clear HL0
    obtain ⟨d, hd, rfl, HI⟩ := hrel
    by_cases hlt : d < 16
    · have hdI : (d : Int) < 16 := by omega
      have h1 := HI.out.levels
      obtain ⟨q0, hq0, hf0⟩ := HI.out.cell hlt
      have HBO : Hid (∀ w2, NumsAt .u16 w2 u0 (lev 16 l d) → Calls Tryz.prog 81 _ w2 _) := fun w2 h2 => bon_any h2 (fun x hx => HL.out x (lev_mem hx)) (by rw [lev_length]; exact hn) d hlt
      have HZF : Hid (∀ w2, NumsAt .u16 w2 u0 (lev 16 l d) → Calls Tryz.prog 82 _ w2 _) := fun w2 h2 => zf_any h2 (fun x hx => HL.out x (lev_mem hx)) (by rw [lev_length]; exact hn) d hlt
      go_wp2_with fail
      refine (bitAt_raw h1 d hlt).mono ?_
      rintro e w2 ⟨rfl, hw⟩
      rw [hw]
      clear hw w2
      go_wp2
      go_region_held (fun w' => w'.cell? ⟨w1.heap.size, 1, none⟩ = some (.slice (some ⟨w.heap.size, 0, none⟩) 16 16)) (go_keep) (first
        | (go_at_call 81; refine (HBO.out _ ?_).mono ?_; exact (HI.out.nums.kept (fun _ _ h => h)); rintro e w' ⟨bb, bw, ba, W, rfl, hbits, hB⟩; have q1 := cell_kept hB ⟨w1.heap.size, 1, none⟩ (.slice (some ⟨w.heap.size, 0, none⟩) 16 16) h1; have q2 := cell_kept hB ⟨w.heap.size, d, none⟩ (.pointer q0) hq0; have q3 := (hB.frozen (p := ⟨w.heap.size, d, none⟩) (World.block_lt_of_cell? _ _ hq0)).trans hf0; have q4 := set_np q2 (.pointer (some ⟨bb, 0, none⟩)) ⟨w1.heap.size, 1, none⟩ _ q1 (by simp)))
      have hL2 := HI.out.below ((Below.refl wr.heap.size wr).drew.trans hB)
      have HNN : Hid _ := nums_np hL2.nums (set_np q2 (.pointer (some ⟨bb, 0, none⟩)))
      have HL2 : Hid (Levels w w' l w.heap.size w1.heap.size d u0) := hL2
      have HBT : Hid _ := hbits
      clear hL2 hB hbits q1 q2 q3 q4 h1 hq0 hf0
      go_wp2_with fail
      refine (HZF.out _ HNN.out).mono ?_
      rintro e w3 ⟨v3, rfl, hnums, hB3⟩
      have HE : Hid (Levels w w3 l w.heap.size w1.heap.size (d + 1) v3) := HL2.out.stored hlt (Nat.le_refl _) (by have := HBT.out; rw [lev_length] at this; exact this) hB3 hnums
      clear hnums hB3
      go_wp2
      go_roundw
      case rel => exact ⟨d + 1, by omega, by go_num, HE.out⟩
      case measure => simp [intOf]; omega
    · obtain rfl : d = 16 := by omega
      go_wp2
      go_ret2
      exact ⟨_, _, rfl, HI.out.done hn HL.out, HI.out.bel⟩
end Go.Proofs.YtphjbbbnbmafnabGreatDoor.S16

namespace Go.Proofs.YtphjbbbnbmafnabGreatDoor.S16
open Go.RowKit Go.Proofs.YtphjbbbnbmafnabGreatDoor

/-- the number that is taken of an edge -/
def numE (e : G.E3) : Int := e.2.2
theorem box3 (w : World) (a b c : Value) (t : TypeId) : (w.alloc (.cells #[a, b, c] t)).cell? ⟨w.heap.size, 0, none⟩ = some a ∧ (w.alloc (.cells #[a, b, c] t)).cell? ⟨w.heap.size, 1, none⟩ = some b ∧ (w.alloc (.cells #[a, b, c] t)).cell? ⟨w.heap.size, 2, none⟩ = some c := by
  refine ⟨?_, ?_, ?_⟩ <;> simp
set_option maxHeartbeats 400000 in
theorem ngf_any (e : G.E3) (x : Nat) (hx : numE e = (x : Int)) (h1 : x < 2 ^ 16) (w : World) :
    Calls Tryz.prog 52 #[.agg #[.int .i64 e.1, .int .i64 e.2.1, .int .i64 e.2.2]] w fun r w' => r = .returned (.int .u16 (x : Int)) ∧ Below w.heap.size w w' := by
  obtain ⟨e1, e2, e3⟩ := e
  have hx2 : e3 = (x : Int) := hx
  subst hx2
  clear hx
  go_enter Tryz.func52, Tryz.ntmps52
  go_wp2
  go_ret
  exact ⟨rfl, (Below.refl _ _).alloc (Nat.le_refl _) _⟩
set_option maxHeartbeats 2000000 in
set_option maxRecDepth 100000 in
theorem numsof_any (l : List G.E3) (v : Value) (w : World) (he : G.EdgesAt w v l) (hl : l.length ≤ 100000) (h : ∀ e ∈ l, 0 ≤ numE e ∧ numE e < (2 ^ 16 : Nat)) :
    Calls Tryz.prog 51 #[v, .func (.func 52) #[] #[]] w fun e w' => ∃ v', e = .returned v' ∧ NumsAt .u16 w' v' (G.tos l) ∧ Below w.heap.size w w' := by
  obtain ⟨a0, cap, rfl, hc⟩ := he
  have HC : Hid _ := hc
  have HL : Hid _ := h
  clear hc h
  obtain ⟨i0, hi, hz0, hz1, hz2⟩ := info_parts Tryz.infoW
  go_enter Tryz.func51, Tryz.ntmps51
  go_wp2_with (at_make; refine wpList_make_own _ rfl _ _ 105 rfl w.heap.size 104 i0 (.int .u16 0) 1 Tryz.underlying105 hi hz0 hz1 _ _ _ l.length rfl rfl (by omega) (by rw [hz2]; omega) (by unfold maxLen; omega) (Nat.le_refl _) ?_; intro w1 hown hgrow)
  have hb1 : Below w.heap.size w w1 := (Below.refl _ _).grown hgrow (Nat.le_refl _) (fun k hk => by cases hk)
  have HO0 : Hid (OwnN w w1 _ []) := ⟨hown, hb1⟩
  clear hgrow hown hb1
  go_loopw [5, 13] (fun v c wr => ∃ k : Nat, k ≤ l.length ∧ c = .int .i64 k ∧ Hid (OwnN w wr v (G.tos (l.take k)))) (fun _ c _ => l.length - (intOf c).toNat)
  case atStart => exact ⟨0, Nat.zero_le _, rfl, HO0.out⟩
  case round =>
    clear HO0
    obtain ⟨k, hk, rfl, HO⟩ := hrel
    by_cases hlt : k < l.length
    · obtain ⟨x, hx⟩ : ∃ x, l[k]? = some x := ⟨_, List.getElem?_eq_getElem hlt⟩
      obtain ⟨g, off, rfl, c0, c1, c2⟩ := HC.out k x hx
      have d0 := cell_kept HO.out.2 _ _ c0
      have d1 := cell_kept HO.out.2 _ _ c1
      have d2 := cell_kept HO.out.2 _ _ c2
      have hkI : (k : Int) < (l.length : Int) := by omega
      have hlk : (G.tos (l.take k)).length = k := by simp [G.tos]; omega
      obtain ⟨h1, h2⟩ := HL.out x (List.mem_of_getElem? hx)
      obtain ⟨y, hy⟩ : ∃ y : Nat, numE x = (y : Int) := ⟨(numE x).toNat, by omega⟩
      have HN : Hid (G.tos (l.take (k + 1)) = G.tos (l.take k) ++ [y]) := (by
        rw [List.take_add_one, hx]
        unfold G.tos
        rw [List.map_append]
        simp only [Option.toList_some, List.map_cons, List.map_nil]
        have e : x.2.2 = (y : Int) := hy
        rw [e]; rfl : _ = _)
      have HF : Hid (Calls Tryz.prog 52 _ (wr.alloc (.cells #[.int .i64 x.1, .int .i64 x.2.1, .int .i64 x.2.2] 41)) _) := ngf_any x y hy (by omega) _
      obtain ⟨x1, x2, x3⟩ := x
      simp only at d0 d1 d2 HF
      obtain ⟨b0, b1, b2⟩ := box3 wr (.int .i64 x1) (.int .i64 x2) (.int .i64 x3) 41
      have HBa : Hid _ := HO.out.2.alloc HO.out.2.size (.cells #[.int .i64 x1, .int .i64 x2, .int .i64 x3] 41)
      have HRa : Hid _ := HO.out.1.alloc (.cells #[.int .i64 x1, .int .i64 x2, .int .i64 x3] 41)
      clear hx c0 c1 c2 hy h1 h2
      go_wp2_with fail
      refine (Calls.mono HF.out ?_)
      rintro e w3 ⟨rfl, hB3⟩
      have hrow := own_below HRa.out hB3
      have HO3 : Hid (OwnN w w3 _ (G.tos (l.take k))) := ⟨hrow, HBa.out.trans (hB3.mono (by have := HO.out.2.size; simp; omega))⟩
      have hsz := HO3.out.2.size
      clear hB3
      go_wp2_with (at_builtin; refine wpList_append_own _ rfl _ _ 105 rfl w.heap.size 104 i0 (.int .u16 0) 1 (16 / 8) Tryz.underlying105 hi hz0 hz1 hz2 rfl (by decide) _ _ _ rfl (hrow.alloc _) ⟨w3.heap.size, 0, none⟩ 1 1 [.int .u16 (y : Int)] rfl rfl ?c1 ?c2 ?c3 ?c4 ?c5 ?_)
      case c1 =>
        intro j u hj
        match j, hj with
        | 0, hj => simp at hj; subst hj; simp [Addr.add]
      case c2 => intro u hu; simp at hu; subst hu; rfl
      case c3 => unfold maxLen; omega
      case c4 => omega
      case c5 => simp; omega
      intro v' w2 hown' hgrow _
      have HO2 : Hid _ := own_snoc (v' := v') (x := y) HO3.out (by rw [hlk]; exact hown') hgrow
      clear hown' hgrow hrow
      go_wp2
      go_roundw
      case rel => exact ⟨k + 1, by omega, by go_num, by rw [HN.out]; exact HO2.out⟩
      case measure => simp [intOf]; omega
    · obtain rfl : k = l.length := by omega
      have HE : Hid _ := nums_own (K := .u16) HO.out.1
      have HB : Hid _ := HO.out.2
      clear HO
      go_wp2
      go_ret
      exact ⟨_, rfl, by have h := HE.out; rwa [List.take_length] at h, HB.out⟩
end Go.Proofs.YtphjbbbnbmafnabGreatDoor.S16
