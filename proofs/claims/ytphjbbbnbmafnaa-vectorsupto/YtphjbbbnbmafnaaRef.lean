/-
  The document's own answers over vectors of bits: trellisref.Bits says whether a text is one; trellislaw.ones makes its list; trellisref.Rank and Select go through that list. What each returns, for every argument that lies in memory as said; nothing that was there is written.
-/
import Derived.Test.YtphjbbbnbmafnaaNew
namespace Go.Proofs.Ytphjbbbnbmafnaa
open Go.RowKit

theorem ok_all {s : ByteArray} (h : okTo s s.size) : s.data.toList.all (fun c => c == 48 || c == 49) = true := by
  rw [List.all_eq_true]
  intro c hc
  obtain ⟨i, hi, rfl⟩ := List.getElem_of_mem hc
  have := h i (by simpa using hi)
  rw [List.getElem?_eq_getElem hi] at this
  simpa using this
theorem okB_eq {s : ByteArray} (h : okTo s s.size) : okB s = decide ((s.size : Int) ≤ 100000) := by
  unfold okB
  rw [ok_all h, Bool.and_true]
  by_cases e : s.size ≤ 100000
  · simp [e]; omega
  · simp [e]; omega

set_option maxHeartbeats 1000000 in
theorem refbits_any (s : ByteArray) (w : World) (hm : s.size ≤ maxLen) : Calls Try.prog 42 #[.string s] w fun e w' => e = .returned (.bool (okB s)) ∧ w' = w := by
  unfold maxLen at hm
  go_enter Try.func42, Try.ntmps42
  go_wp2
  go_loop [3] (fun c => ∃ k : Nat, k ≤ s.size ∧ c = .int .i64 k ∧ okTo s k) (fun c => s.size - (intOf c).toNat)
  case atStart => exact ⟨0, Nat.zero_le _, rfl, fun i hi => absurd hi (Nat.not_lt_zero _)⟩
  case round =>
    obtain ⟨k, hk, rfl, hok⟩ := hrel
    have HK : Hid _ := hok
    clear hok
    by_cases hlt : k < s.size
    · cases h0 : ((s[k].toNat : Int) == 48)
      · have n0 : ((s[k].toNat : Int) != 48) = true := by rw [bne, h0]; rfl
        cases h1 : ((s[k].toNat : Int) == 49)
        · have n1 : ((s[k].toNat : Int) != 49) = true := by rw [bne, h1]; rfl
          have HN : Hid _ := not_okB hlt (byte_not _ 48 h0) (byte_not _ 49 h1)
          go_wp2
          go_ret
          exact ⟨by rw [HN.out]; rfl, rfl⟩
        · have n1 : ((s[k].toNat : Int) != 49) = false := by rw [bne, h1]; rfl
          go_wp2
          go_round
          case rel => exact ⟨k + 1, by omega, by go_num, okTo_succ HK.out (.inr (bit_49 hlt h1).1)⟩
          case measure => simp [intOf]; omega
      · have n0 : ((s[k].toNat : Int) != 48) = false := by rw [bne, h0]; rfl
        go_wp2
        go_round
        case rel => exact ⟨k + 1, by omega, by go_num, okTo_succ HK.out (.inl (bit_48 hlt h0).1)⟩
        case measure => simp [intOf]; omega
    · obtain rfl : k = s.size := by omega
      have HE : Hid _ := okB_eq HK.out
      go_wp2
      go_ret
      exact ⟨by rw [HE.out]; rfl, rfl⟩

set_option maxHeartbeats 400000 in
theorem num_any (n : Int) (w : World) : Calls Try.prog 15 #[.int .i64 n] w fun e w' => e = .returned (.int .i64 n) ∧ w' = w := by
  go_enter Try.func15, Try.ntmps15
  go_wp2
  go_ret
  exact ⟨rfl, rfl⟩

/-- what trellislaw.bits answers -/
def BitsPost (s : ByteArray) (w : World) (e : Ending) (w' : World) : Prop :=
  Below w.heap.size w w' ∧ ((okB s = false ∧ e = .returned (.tuple #[.pointer none, .bool true])) ∨ (okB s = true ∧ ∃ b bw ba W, e = .returned (.tuple #[.pointer (some ⟨b, 0, none⟩), .bool true]) ∧ BitsAt w' b bw ba (bitOf s) s.size W))
set_option maxHeartbeats 400000 in
theorem lawbits_any (s : ByteArray) (w : World) (hm : s.size ≤ maxLen) : Calls Try.prog 9 #[.string s] w (BitsPost s w) := by
  go_enter Try.func9, Try.ntmps9
  go_wp2_with fail
  refine (new_all s _ hm).mono ?_
  rintro e w1 ⟨hB, ⟨hf, rfl⟩ | ⟨hf, b, bw, ba, W, rfl, hb⟩⟩
  · have hr := refbits_any s w1 hm
    rw [hf] at hr
    have HF : Hid _ := hf
    clear hf
    go_wp2_with fail
    refine hr.mono ?_
    clear hr
    rintro e w2 ⟨rfl, rfl⟩
    go_wp2_with (go_at_call 15; refine (num_any _ _).mono ?_; rintro e w2 ⟨rfl, rfl⟩)
    go_ret2
    exact ⟨hB, .inl ⟨HF.out, rfl⟩⟩
  · have hr := refbits_any s w1 hm
    rw [hf] at hr
    have HF : Hid _ := hf
    clear hf
    go_wp2_with fail
    refine hr.mono ?_
    clear hr
    rintro e w2 ⟨rfl, rfl⟩
    go_wp2_with (go_at_call 15; refine (num_any _ _).mono ?_; rintro e w2 ⟨rfl, rfl⟩)
    go_ret2
    exact ⟨hB, .inr ⟨HF.out, b, bw, ba, W, rfl, hb⟩⟩

/-- a list of 0 and 1 in memory -/
def ListAt (w : World) (v : Value) (f : Nat → Bool) (n : Nat) : Prop :=
  ∃ a0 cap, v = .slice a0 n cap ∧ (n = 0 ∨ ∃ g, a0 = some ⟨g, 0, none⟩ ∧ ∀ j, j < n → w.cell? ⟨g, j, none⟩ = some (.int .i64 ((f j).toNat : Int)))
theorem ListAt.below {w w' : World} {v : Value} {f : Nat → Bool} {n : Nat} (h : ListAt w v f n) (hB : Below w.heap.size w w') : ListAt w' v f n := by
  obtain ⟨a0, cap, hv, h⟩ := h
  refine ⟨a0, cap, hv, ?_⟩
  rcases h with h | ⟨g, hg, hc⟩
  · exact .inl h
  · exact .inr ⟨g, hg, fun j hj => cell_kept hB _ _ (hc j hj)⟩
theorem Try.info3 : (Try.prog.info? 3).map (fun i => (i.zero, i.size, i.bytes)) = some (some (.int .i64 0), 1, 8) := by kernel_rfl

def numsOf (s : ByteArray) (k : Nat) : List Value := (s.data.toList.take k).map fun c => .int .i64 ((c.toNat : Int) - 48)
theorem numsOf_len (s : ByteArray) (k : Nat) (h : k ≤ s.size) : (numsOf s k).length = k := by simp [numsOf]; exact Nat.min_eq_left h
theorem numsOf_succ (s : ByteArray) (k : Nat) (h : k < s.size) : numsOf s (k + 1) = numsOf s k ++ [.int .i64 ((s[k].toNat : Int) - 48)] := by
  unfold numsOf
  rw [List.take_add_one, at_k s k h]
  simp

set_option maxHeartbeats 1000000 in
theorem ones_list (s : ByteArray) (w : World) (hm : s.size ≤ 1048576) :
    Calls Try.prog 12 #[.string s] w fun e w' => ∃ v, e = .returned v ∧ w'.ownsRow w.heap.size 3 1 v s.size (numsOf s s.size) ∧ Below w.heap.size w w' := by
  obtain ⟨i0, hi, hz0, hz1, hz2⟩ := info_parts Try.info3
  go_enter Try.func12, Try.ntmps12
  go_wp2
  go_loopw [3, 4] (fun v c wr => ∃ k : Nat, k ≤ s.size ∧ c = .int .i64 k ∧ wr.ownsRow w.heap.size 3 1 v k (numsOf s k) ∧ Below w.heap.size w wr) (fun _ c _ => s.size - (intOf c).toNat)
  case atStart => exact ⟨0, Nat.zero_le _, rfl, World.ownsRow_nil _ _ _ _, Below.refl _ _⟩
  case round =>
    obtain ⟨k, hk, rfl, hown, hbel⟩ := hrel
    by_cases hlt : k < s.size
    · have HS : Hid _ := numsOf_succ s k hlt
      have hsz := hbel.size
      have hby : (s[k].toNat : Int) ≤ 255 := by have := UInt8.toNat_lt s[k]; omega
      go_wp2_with (at_builtin; refine wpList_append_own _ rfl _ _ 29 rfl w.heap.size 3 i0 (.int .i64 0) 1 8 Try.underlying29 hi hz0 hz1 hz2 rfl (by decide) _ _ _ rfl (hown.alloc _) ⟨wr.heap.size, 0, none⟩ 1 1 [.int .i64 ((s[k].toNat : Int) - 48)] rfl rfl ?c1 ?c2 ?c3 ?c4 ?c5 ?_)
      case c1 =>
        intro j u hj
        match j, hj with
        | 0, hj => simp at hj; subst hj; simp [Addr.add]
      case c2 => intro u hu; simp at hu; subst hu; rfl
      case c3 => unfold maxLen; omega
      case c4 => omega
      case c5 => simp; omega
      · intro v' w1 hown' hgrow _
        have hlt3 := hown.lt
        have hb2 := (hbel.alloc hbel.size (.cells #[.int .i64 ((s[k].toNat : Int) - 48)] 3)).grown hgrow (by simp; omega) (fun j hj => (hlt3 j hj).1)
        have HB : Hid _ := hb2
        have HO : Hid _ := hown'
        clear hb2 hown' hgrow hlt3 hown hbel
        go_wp2
        go_roundw
        case rel => exact ⟨k + 1, by omega, by go_num, by rw [HS.out]; exact HO.out, HB.out⟩
        case measure => simp [intOf]; omega
    · obtain rfl : k = s.size := by omega
      go_wp2
      go_ret
      exact ⟨_, rfl, hown, hbel⟩
theorem list_of {s : ByteArray} {w : World} {B : Nat} {v : Value} (hok : okB s = true) (h : w.ownsRow B 3 1 v s.size (numsOf s s.size)) : ListAt w v (bitOf s) s.size := by
  rcases h.2 with ⟨rfl, h0⟩ | ⟨g, cap, cur, rfl, _⟩
  · exact ⟨none, 0, by rw [h0], .inl h0⟩
  · refine ⟨_, cap, rfl, .inr ⟨g, rfl, fun j hj => ?_⟩⟩
    rw [h.cellAt j (by omega)]
    have ha := at_k s j hj
    have hb : s[j] = 48 ∨ s[j] = 49 := by
      have hm := List.mem_of_getElem? ha
      unfold okB at hok
      rw [Bool.and_eq_true, List.all_eq_true] at hok
      have := hok.2 _ hm
      simpa using this
    unfold numsOf
    rw [List.take_of_length_le (by show s.data.toList.length ≤ s.data.size; simp), List.getElem?_map, ha]
    unfold bitOf
    rw [ha]
    rcases hb with hb | hb <;> rw [hb] <;> rfl

set_option maxHeartbeats 400000 in
theorem refrank_no {w : World} {v : Value} {f : Nat → Bool} {n : Nat} (h : ListAt w v f n) (hn : n ≤ 1048576) (i : Int) (hi : i < 0 ∨ (n : Int) < i) :
    Calls Try.prog 14 #[v, .int .i64 1, .int .i64 i] w fun e w' => e = .returned (.tuple #[.int .i64 0, .int .i64 1]) ∧ w' = w := by
  obtain ⟨a0, cap, rfl, _⟩ := h
  rcases hi with hi | hi
  · go_enter Try.func14, Try.ntmps14
    go_wp2
    go_ret2
    exact ⟨rfl, rfl⟩
  · have h1 : ¬ i < 0 := by omega
    go_enter Try.func14, Try.ntmps14
    go_wp2
    go_ret2
    exact ⟨rfl, rfl⟩
set_option maxHeartbeats 1000000 in
theorem refrank_yes {w : World} {v : Value} {f : Nat → Bool} {n : Nat} (h : ListAt w v f n) (hn : n ≤ 1048576) (i : Nat) (hi : i ≤ n) :
    Calls Try.prog 14 #[v, .int .i64 1, .int .i64 (i : Int)] w fun e w' => e = .returned (.tuple #[.int .i64 (cnt f i : Int), .int .i64 0]) ∧ w' = w := by
  obtain ⟨a0, cap, rfl, hl⟩ := h
  have HL : Hid _ := hl
  clear hl
  have h1 : ¬ (i : Int) < 0 := by omega
  go_enter Try.func14, Try.ntmps14
  go_wp2
  go_loop [8, 9] (fun m c => ∃ k : Nat, k ≤ i ∧ c = .int .i64 k ∧ m = .int .i64 (cnt f k : Int)) (fun _ c => i - (intOf c).toNat)
  case atStart => exact ⟨0, Nat.zero_le _, rfl, rfl⟩
  case round =>
    obtain ⟨k, hk, rfl, rfl⟩ := hrel
    have hck := cnt_le f k
    by_cases hlt : k < i
    · obtain ⟨g, rfl, hc⟩ := HL.out.resolve_left (by omega)
      have hcell := hc k (by omega)
      have hki : (k : Int) < (n : Int) := by omega
      clear hc HL
      have HC : Hid _ := cnt_succ f k
      cases hf : f k
      · rw [hf] at hcell HC
        simp only [Bool.toNat_false, Int.cast_ofNat_Int, Nat.add_zero] at hcell HC
        clear hf
        go_wp2
        go_round
        case rel => exact ⟨k + 1, by omega, by go_num, by rw [HC.out]⟩
        case measure => simp [intOf]; omega
      · rw [hf] at hcell HC
        simp only [Bool.toNat_true, Int.cast_ofNat_Int] at hcell HC
        clear hf
        go_wp2
        go_round
        case rel => exact ⟨k + 1, by omega, by go_num, by rw [HC.out]; go_num⟩
        case measure => simp [intOf]; omega
    · obtain rfl : k = i := by omega
      go_wp2
      go_ret2
      exact ⟨rfl, rfl⟩
set_option maxHeartbeats 1000000 in
theorem refsel_yes {w : World} {v : Value} {f : Nat → Bool} {n : Nat} (h : ListAt w v f n) (hn : n ≤ 1048576) (p : Nat) (hp : p < n) (hf : f p = true) :
    Calls Try.prog 16 #[v, .int .i64 1, .int .i64 (cnt f p : Int)] w fun e w' => e = .returned (.tuple #[.int .i64 (p : Int), .int .i64 0]) ∧ w' = w := by
  obtain ⟨a0, cap, rfl, hl⟩ := h
  have HL : Hid _ := hl
  have HF : Hid (f p = true) := hf
  clear hl hf
  have hcp := cnt_le f p
  go_enter Try.func16, Try.ntmps16
  go_wp2
  go_loop [8, 9] (fun m c => ∃ k : Nat, k ≤ p ∧ c = .int .i64 k ∧ m = .int .i64 (cnt f k : Int)) (fun _ c => p - (intOf c).toNat)
  case atStart => exact ⟨0, Nat.zero_le _, rfl, rfl⟩
  case round =>
    obtain ⟨k, hk, rfl, rfl⟩ := hrel
    have hck := cnt_le f k
    obtain ⟨g, rfl, hc⟩ := HL.out.resolve_left (by omega)
    have hcell := hc k (by omega)
    have hki : (k : Int) < (n : Int) := by omega
    clear hc HL
    have HC : Hid _ := cnt_succ f k
    by_cases e : k = p
    · subst e
      rw [HF.out] at hcell
      simp only [Bool.toNat_true, Int.cast_ofNat_Int] at hcell
      go_wp2
      go_ret2
      exact ⟨rfl, rfl⟩
    · cases hf : f k
      · rw [hf] at hcell HC
        simp only [Bool.toNat_false, Int.cast_ofNat_Int, Nat.add_zero] at hcell HC
        clear hf
        go_wp2
        go_round
        case rel => exact ⟨k + 1, by omega, by go_num, by rw [HC.out]⟩
        case measure => simp [intOf]; omega
      · have hm := cnt_mono f (show k + 1 ≤ p by omega)
        rw [HC.out] at hm
        rw [hf] at hcell HC hm
        simp only [Bool.toNat_true, Int.cast_ofNat_Int] at hcell HC hm
        clear hf
        have hne : ((cnt f k : Int) == (cnt f p : Int)) = false := by simp; omega
        go_wp2
        go_round
        case rel => exact ⟨k + 1, by omega, by go_num, by rw [HC.out]; go_num⟩
        case measure => simp [intOf]; omega
set_option maxHeartbeats 1000000 in
theorem refsel_no {w : World} {v : Value} {f : Nat → Bool} {n : Nat} (h : ListAt w v f n) (hn : n ≤ 1048576) (q : Int) (hq : q < 0 ∨ (cnt f n : Int) ≤ q) :
    Calls Try.prog 16 #[v, .int .i64 1, .int .i64 q] w fun e w' => e = .returned (.tuple #[.int .i64 0, .int .i64 1]) ∧ w' = w := by
  obtain ⟨a0, cap, rfl, hl⟩ := h
  have HL : Hid _ := hl
  clear hl
  go_enter Try.func16, Try.ntmps16
  go_wp2
  go_loop [8, 9] (fun m c => ∃ k : Nat, k ≤ n ∧ c = .int .i64 k ∧ m = .int .i64 (cnt f k : Int)) (fun _ c => n - (intOf c).toNat)
  case atStart => exact ⟨0, Nat.zero_le _, rfl, rfl⟩
  case round =>
    obtain ⟨k, hk, rfl, rfl⟩ := hrel
    have hck := cnt_le f k
    by_cases hlt : k < n
    · obtain ⟨g, rfl, hc⟩ := HL.out.resolve_left (by omega)
      have hcell := hc k (by omega)
      have hki : (k : Int) < (n : Int) := by omega
      clear hc HL
      have HC : Hid _ := cnt_succ f k
      cases hf : f k
      · rw [hf] at hcell HC
        simp only [Bool.toNat_false, Int.cast_ofNat_Int, Nat.add_zero] at hcell HC
        clear hf
        go_wp2
        go_round
        case rel => exact ⟨k + 1, by omega, by go_num, by rw [HC.out]⟩
        case measure => simp [intOf]; omega
      · have hm := cnt_mono f (show k + 1 ≤ n by omega)
        rw [HC.out] at hm
        rw [hf] at hcell HC hm
        simp only [Bool.toNat_true, Int.cast_ofNat_Int] at hcell HC hm
        clear hf
        have hne : ((cnt f k : Int) == q) = false := by simp; omega
        go_wp2
        go_round
        case rel => exact ⟨k + 1, by omega, by go_num, by rw [HC.out]; go_num⟩
        case measure => simp [intOf]; omega
    · obtain rfl : k = n := by omega
      go_wp2
      go_ret2
      exact ⟨rfl, rfl⟩
end Go.Proofs.Ytphjbbbnbmafnaa
