/-
  succ.bitsOfNumbers and succ.zerosFirst over a list of numbers of 16 bits in memory: the vector of one of their bits; the list with those whose bit is 0 ahead of those whose bit is 1; both in new memory. The list's reading is the one condition.
-/
import Derived.Test.YtphjbbbnbmafnaaNums
import Derived.Test.YtphjbbbnbmafnaaAsk16
namespace Go.Proofs.Ytphjbbbnbmafnaa.S16
open Go.RowKit Go.Proofs.Ytphjbbbnbmafnaa

theorem Try.infoW : (Try.prog.info? 57).map (fun i => (i.zero, i.size, i.bytes)) = some (some (.int .u16 0), 1, 16 / 8) := by kernel_rfl
theorem bitf_get {l : List Nat} {k x h : Nat} (hx : l[k]? = some x) : bitf l h k = x.testBit h := bitf_at hx
theorem lt_of {l : List Nat} {k x : Nat} (hl : ∀ x ∈ l, x < 2 ^ 16) (hx : l[k]? = some x) : x < 2 ^ 16 := hl x (List.mem_of_getElem? hx)

set_option maxHeartbeats 2000000 in
set_option maxRecDepth 100000 in
theorem bon_any {w : World} {v : Value} {l : List Nat} (hv : NumsAt .u16 w v l) (hl : ∀ x ∈ l, x < 2 ^ 16) (hn : l.length ≤ 100000) (d : Nat) (hd : d < 16) :
    Calls Try.prog 54 #[v, .int .u16 (bitv 16 d)] w fun e w' => ∃ b bw ba W, e = .returned (.pointer (some ⟨b, 0, none⟩)) ∧ BitsAt w' b bw ba (bitf l (16 - 1 - d)) l.length W ∧ Below w.heap.size w w' := by
  obtain ⟨a0, cap, rfl, hc⟩ := hv.open
  have HC : Hid _ := hc
  have HL : Hid _ := hl
  clear hc hv hl
  obtain ⟨i0, hi, hz0, hz1, hz2⟩ := info_parts Try.info88
  go_enter Try.func54, Try.ntmps54
  go_wp2_with (at_make; refine wpList_make_full _ rfl _ _ 82 rfl w.heap.size 88 i0 (.int .u64 0) 1 Try.underlying82 hi hz0 hz1 _ _ _ _ (l.length / 64 + 1) rfl rfl (by omega) (by omega) (by rw [hz2]; omega) (by unfold maxLen; omega) (Nat.le_refl _) ?_; intro w1 hown hgrow)
  have hb1 : Below w.heap.size w w1 := (Below.refl _ _).grown hgrow (Nat.le_refl _) (fun k hk => by cases hk)
  have hst := words_start (bitf l (16 - 1 - d)) (l.length / 64 + 1)
  generalize (madeCells (Value.int IntKind.u64 0).cells ((l.length / 64 + 1) * 1)).toList = xs0 at hown hst
  clear hgrow
  go_loopw [15] (fun c wr => RelW (bitf l (16 - 1 - d)) l.length w c wr) (fun c _ => l.length - (intOf c).toNat)
  case atStart => exact ⟨0, xs0, Nat.zero_le _, rfl, hown, hb1, hst⟩
  case round =>
    clear hown hst hb1
    obtain ⟨k, xs, hk, rfl, hown, hbel, hwo⟩ := hrel
    have HO : Hid _ := hown
    have HW : Hid _ := hwo
    have HB : Hid _ := hbel
    by_cases hlt : k < l.length
    · obtain ⟨X, hcell, hfr, HX⟩ := word_cell hlt hown hwo
      obtain ⟨x, hx⟩ := some_at' hlt
      obtain ⟨g, off, rfl, hxc⟩ := HC.out k x hx
      have hxc1 := cell_kept hbel _ _ hxc
      have hA := and_bit x d (lt_of HL.out hx) hd
      have HF : Hid _ := bitf_get (h := 16 - 1 - d) hx
      clear hown hwo hbel hxc hx
      have hk1 : (k : Int) / 64 < ((l.length / 64 + 1 : Nat) : Int) := by omega
      have hk2 : (k : Int) / 64 < (l.length : Int) / 64 + 1 := by omega
      have hk3 : (k : Int) < (l.length : Int) := by omega
      cases hbit : x.testBit (16 - 1 - d)
      · rw [hbit] at hA HF
        clear hbit
        go_wp2
        go_roundw
        case rel => exact ⟨k + 1, xs, by omega, by go_num, HO.out, HB.out, words_keep HW.out HF.out⟩
        case measure => simp [intOf]; omega
      · rw [hbit] at hA HF
        clear hbit
        go_wp2
        go_region
        go_wp2
        go_roundw
        case rel => exact relw_set hlt HF.out HO.out HW.out HB.out HX.out
        case measure => simp [intOf]; omega
    · obtain rfl : k = l.length := by omega
      clear hown hwo hbel
      go_wp2_with (go_at_call 45; refine (bow_of hn (bitf_out l _) HO.out HW.out).mono ?_; rintro e w' ⟨b, ba, rfl, hbits, hnew⟩)
      go_ret
      exact ⟨b, _, ba, _, rfl, hbits, HB.out.trans (hnew.mono HB.out.size)⟩

/-! ### zerosFirst -/
theorem and_eq0 (c d : Nat) (hc : c < 2 ^ 16) (hd : d < 16) : (bits .and .u16 (c : Int) (bitv 16 d) == 0) = (c.testBit (16 - 1 - d) == false) := by
  have h := and_bit c d hc hd
  rw [bne] at h
  rw [← h]
  cases (bits .and .u16 (c : Int) (bitv 16 d) == 0) <;> rfl
theorem and_eqb (c d : Nat) (hc : c < 2 ^ 16) (hd : d < 16) : (bits .and .u16 (c : Int) (bitv 16 d) == bitv 16 d) = (c.testBit (16 - 1 - d) == true) := by
  unfold bitv
  rw [u16_and_nat c _ hc (Nat.pow_lt_pow_right (by decide) (show 16 - 1 - d < 16 by omega))]
  have hp : 0 < 2 ^ (16 - 1 - d) := Nat.two_pow_pos _
  have e : c &&& 2 ^ (16 - 1 - d) = (c.testBit (16 - 1 - d)).toNat * 2 ^ (16 - 1 - d) := by
    rw [nat_bit, Nat.testBit_eq_decide_div_mod_eq]
    have : c / 2 ^ (16 - 1 - d) % 2 < 2 := Nat.mod_lt _ (by decide)
    rcases (show c / 2 ^ (16 - 1 - d) % 2 = 0 ∨ c / 2 ^ (16 - 1 - d) % 2 = 1 by omega) with e | e <;> rw [e] <;> simp
  rw [e]
  generalize 2 ^ (16 - 1 - d) = m at *
  cases c.testBit (16 - 1 - d)
  · simp; omega
  · simp
/-- the list so far: the sides that are done, and the first k of the side at hand -/
def soFar (l : List Nat) (h : Nat) (s : Bool) (k : Nat) : List Nat := (if s then l.filter (fun x => x.testBit h == false) else []) ++ (l.take k).filter (fun x => x.testBit h == s)
theorem soFar_next {l : List Nat} {h : Nat} {s : Bool} {k x : Nat} (hx : l[k]? = some x) : soFar l h s (k + 1) = soFar l h s k ++ (if x.testBit h == s then [x] else []) := by
  unfold soFar
  rw [List.take_add_one, hx, List.filter_append, ← List.append_assoc]
  congr 1
  simp only [Option.toList_some, List.filter_cons, List.filter_nil]
theorem soFar_len (l : List Nat) (h : Nat) (s : Bool) (k : Nat) : (soFar l h s k).length ≤ 2 * l.length := by
  unfold soFar
  rw [List.length_append]
  have h1 := List.length_filter_le (fun x => x.testBit h == false) l
  have h2 := List.length_filter_le (fun x => x.testBit h == s) (l.take k)
  have h3 : (l.take k).length ≤ l.length := by simp; omega
  cases s
  · simp only [Bool.false_eq_true, if_false, List.length_nil]; omega
  · simp only [if_true]; omega
theorem soFar_turn (l : List Nat) (h : Nat) : soFar l h false l.length = soFar l h true 0 := by unfold soFar; simp
theorem soFar_end (l : List Nat) (h : Nat) : soFar l h true l.length = part h l := by unfold soFar part; simp
theorem soFar_start (l : List Nat) (h : Nat) : soFar l h false 0 = [] := by unfold soFar; simp

/-- the list at the beginning of each side -/
def stage (l : List Nat) (h s : Nat) : List Nat := if s = 0 then [] else if s = 1 then soFar l h true 0 else part h l
/-- a row of one's own that reads as a list -/
def OwnN (w wr : World) (v : Value) (l : List Nat) : Prop := wr.ownsRow w.heap.size 57 1 v l.length (vals .u16 l) ∧ Below w.heap.size w wr
theorem own_snoc {w wr w2 : World} {v v' : Value} {l : List Nat} {x : Nat} {o : Obj} (h : OwnN w wr v l) (hown : w2.ownsRow w.heap.size 57 1 v' (l.length + 1) (vals .u16 l ++ [.int .u16 (x : Int)])) (hg : (wr.alloc o).grownBy w2 v.ownBlock) : OwnN w w2 v' (l ++ [x]) := by
  refine ⟨by rw [vals_snoc, List.length_append]; exact hown, ?_⟩
  exact (h.2.alloc h.2.size o).grown hg (by have := h.2.size; simp; omega) (fun j hj => (h.1.lt j hj).1)

set_option maxHeartbeats 4000000 in
set_option maxRecDepth 100000 in
theorem zf_any {w : World} {v : Value} {l : List Nat} (hv : NumsAt .u16 w v l) (hl : ∀ x ∈ l, x < 2 ^ 16) (hn : l.length ≤ 100000) (d : Nat) (hd : d < 16) :
    Calls Try.prog 55 #[v, .int .u16 (bitv 16 d)] w fun e w' => ∃ v', e = .returned v' ∧ NumsAt .u16 w' v' (part (16 - 1 - d) l) ∧ Below w.heap.size w w' := by
  obtain ⟨a0, cap, rfl, hc⟩ := hv.open
  have HC : Hid _ := hc
  have HL : Hid _ := hl
  clear hc hv hl
  obtain ⟨i0, hi, hz0, hz1, hz2⟩ := info_parts Try.infoW
  have x0 : ∀ w, (Instr.index 132 (.agg #[.int .u16 0, .int .u16 (bitv 16 d)]) (.int .i64 0)).run Try.prog w = .ok (.int .u16 0) w := fun _ => by kernel_rfl
  have x1 : ∀ w, (Instr.index 132 (.agg #[.int .u16 0, .int .u16 (bitv 16 d)]) (.int .i64 1)).run Try.prog w = .ok (.int .u16 (bitv 16 d)) w := fun _ => by kernel_rfl
  go_enter Try.func55, Try.ntmps55
  go_wp2_with (at_make; refine wpList_make_own _ rfl _ _ 52 rfl w.heap.size 57 i0 (.int .u16 0) 1 Try.underlying52 hi hz0 hz1 _ _ _ l.length rfl rfl (by omega) (by rw [hz2]; omega) (by unfold maxLen; omega) (Nat.le_refl _) ?_; intro w1 hown hgrow)
  have hb1 : Below w.heap.size w w1 := (Below.refl _ _).grown hgrow (Nat.le_refl _) (fun k hk => by cases hk)
  clear hgrow
  go_loopw [5, 15] (fun v c wr => ∃ s : Nat, s ≤ 2 ∧ c = .int .i64 s ∧ OwnN w wr v (stage l (16 - 1 - d) s)) (fun _ c _ => 2 - (intOf c).toNat)
  case atStart => exact ⟨0, Nat.zero_le _, rfl, hown, hb1⟩
  case round =>
    clear hown hb1
    obtain ⟨s, hs, rfl, hown⟩ := hrel
    rcases (show s = 0 ∨ s = 1 ∨ s = 2 by omega) with rfl | rfl | rfl
    · have HO0 : Hid _ := hown
      rw [show ((0 : Nat) : Int) = 0 from rfl]
      go_wp2
      go_loopw [5, 20] (fun v c wr => ∃ k : Nat, k ≤ l.length ∧ c = .int .i64 k ∧ OwnN w wr v (soFar l (16 - 1 - d) false k)) (fun _ c _ => l.length - (intOf c).toNat)
      case atStart => exact ⟨0, Nat.zero_le _, rfl, by rw [soFar_start]; exact HO0.out⟩
      case round =>
        clear hown
        obtain ⟨k, hk, rfl, hown⟩ := hrel
        by_cases hlt : k < l.length
        · obtain ⟨x, hx⟩ := some_at' hlt
          obtain ⟨g, off, rfl, hxc⟩ := HC.out k x hx
          have hxc1 := cell_kept hown.2 _ _ hxc
          have hA := and_eq0 x d (lt_of HL.out hx) hd
          have hN := soFar_next (h := 16 - 1 - d) (s := false) hx
          have hk3 : (k : Int) < (l.length : Int) := by omega
          have hsl := soFar_len l (16 - 1 - d) false k
          cases hbit : (x.testBit (16 - 1 - d) == false)
          · rw [hbit] at hA hN
            rw [if_neg (by decide), List.append_nil] at hN
            have HN : Hid _ := hN
            have HO : Hid _ := hown
            clear hbit hN hx hxc hown hsl
            go_wp2
            go_roundw
            case rel => exact ⟨k + 1, by omega, by go_num, by rw [HN.out]; exact HO.out⟩
            case measure => simp [intOf]; omega
          · rw [hbit] at hA hN
            rw [if_pos rfl] at hN
            have HN : Hid _ := hN
            have HO : Hid _ := hown
            have hrow := hown.1
            have hsz := hown.2.size
            clear hbit hN hx hxc hown
            go_wp2_with (at_builtin; refine wpList_append_own _ rfl _ _ 52 rfl w.heap.size 57 i0 (.int .u16 0) 1 (16 / 8) Try.underlying52 hi hz0 hz1 hz2 rfl (by decide) _ _ _ rfl (hrow.alloc _) ⟨wr.heap.size, 0, none⟩ 1 1 [.int .u16 (x : Int)] rfl rfl ?c1 ?c2 ?c3 ?c4 ?c5 ?_)
            case c1 =>
              intro j u hj
              match j, hj with
              | 0, hj => simp at hj; subst hj; simp [Addr.add]
            case c2 => intro u hu; simp at hu; subst hu; rfl
            case c3 => unfold maxLen; omega
            case c4 => omega
            case c5 => simp; omega
            intro v' w2 hown' hgrow _
            have HO2 : Hid _ := own_snoc HO.out hown' hgrow
            clear hown' hgrow hrow
            go_wp2
            go_roundw
            case rel => exact ⟨k + 1, by omega, by go_num, by rw [HN.out]; exact HO2.out⟩
            case measure => simp [intOf]; omega
        · obtain rfl : k = l.length := by omega
          have HO : Hid _ := hown
          clear hown
          go_wp2
          go_roundw
          case rel => exact ⟨1, by omega, by go_num, by rw [soFar_turn] at HO; exact HO.out⟩
          case measure => simp [intOf]
    · have HO0 : Hid _ := hown
      rw [show ((1 : Nat) : Int) = 1 from rfl]
      go_wp2
      go_loopw [5, 20] (fun v c wr => ∃ k : Nat, k ≤ l.length ∧ c = .int .i64 k ∧ OwnN w wr v (soFar l (16 - 1 - d) true k)) (fun _ c _ => l.length - (intOf c).toNat)
      case atStart => exact ⟨0, Nat.zero_le _, rfl, HO0.out⟩
      case round =>
        clear hown
        obtain ⟨k, hk, rfl, hown⟩ := hrel
        by_cases hlt : k < l.length
        · obtain ⟨x, hx⟩ := some_at' hlt
          obtain ⟨g, off, rfl, hxc⟩ := HC.out k x hx
          have hxc1 := cell_kept hown.2 _ _ hxc
          have hA := and_eqb x d (lt_of HL.out hx) hd
          have hN := soFar_next (h := 16 - 1 - d) (s := true) hx
          have hk3 : (k : Int) < (l.length : Int) := by omega
          have hsl := soFar_len l (16 - 1 - d) true k
          cases hbit : (x.testBit (16 - 1 - d) == true)
          · rw [hbit] at hA hN
            rw [if_neg (by decide), List.append_nil] at hN
            have HN : Hid _ := hN
            have HO : Hid _ := hown
            clear hbit hN hx hxc hown hsl
            go_wp2
            go_roundw
            case rel => exact ⟨k + 1, by omega, by go_num, by rw [HN.out]; exact HO.out⟩
            case measure => simp [intOf]; omega
          · rw [hbit] at hA hN
            rw [if_pos rfl] at hN
            have HN : Hid _ := hN
            have HO : Hid _ := hown
            have hrow := hown.1
            have hsz := hown.2.size
            clear hbit hN hx hxc hown
            go_wp2_with (at_builtin; refine wpList_append_own _ rfl _ _ 52 rfl w.heap.size 57 i0 (.int .u16 0) 1 (16 / 8) Try.underlying52 hi hz0 hz1 hz2 rfl (by decide) _ _ _ rfl (hrow.alloc _) ⟨wr.heap.size, 0, none⟩ 1 1 [.int .u16 (x : Int)] rfl rfl ?c1 ?c2 ?c3 ?c4 ?c5 ?_)
            case c1 =>
              intro j u hj
              match j, hj with
              | 0, hj => simp at hj; subst hj; simp [Addr.add]
            case c2 => intro u hu; simp at hu; subst hu; rfl
            case c3 => unfold maxLen; omega
            case c4 => omega
            case c5 => simp; omega
            intro v' w2 hown' hgrow _
            have HO2 : Hid _ := own_snoc HO.out hown' hgrow
            clear hown' hgrow hrow
            go_wp2
            go_roundw
            case rel => exact ⟨k + 1, by omega, by go_num, by rw [HN.out]; exact HO2.out⟩
            case measure => simp [intOf]; omega
        · obtain rfl : k = l.length := by omega
          have HO : Hid _ := hown
          clear hown
          go_wp2
          go_roundw
          case rel => exact ⟨2, by omega, by go_num, by rw [soFar_end] at HO; exact HO.out⟩
          case measure => simp [intOf]
    · have HO : Hid _ := hown
      clear hown
      go_wp2
      go_ret
      exact ⟨_, rfl, nums_own HO.out.1, HO.out.2⟩
end Go.Proofs.Ytphjbbbnbmafnaa.S16
