/-
  The program's numbersOf at numbers of 16 bits: the ends of edges, a new list; nothing that was there is written.
-/
import Derived.Test.YtphjbbbnbmafnabGreatDoorNewSeq16
import Derived.Test.YtphjbbbnbmafnabGreatDoorEdges
import Derived.Test.YtphjbbbnbmafnabGreatDoorGBits
namespace Go.Proofs.YtphjbbbnbmafnabGreatDoor.S16
open Go.RowKit Go.Proofs.YtphjbbbnbmafnabGreatDoor

/-- the number that is taken of an edge -/
def numE (e : G.E3) : Int := e.2.2
theorem box3 (w : World) (a b c : Value) (t : TypeId) : (w.alloc (.cells #[a, b, c] t)).cell? ⟨w.heap.size, 0, none⟩ = some a ∧ (w.alloc (.cells #[a, b, c] t)).cell? ⟨w.heap.size, 1, none⟩ = some b ∧ (w.alloc (.cells #[a, b, c] t)).cell? ⟨w.heap.size, 2, none⟩ = some c := by
  refine ⟨?_, ?_, ?_⟩ <;> simp
set_option maxHeartbeats 400000 in
theorem ngf_any (e : G.E3) (x : Nat) (hx : numE e = (x : Int)) (h1 : x < 2 ^ 16) (w : World) :
    Calls Tryz.prog 52 #[.agg #[.int .i64 e.1, .int .i64 e.2.1, .int .i64 e.2.2]] w fun r w' => r = .returned (.int .u16 (x : Int)) ∧ Below w.heap.size w w' := by
  obtain ⟨e1, e2, e3⟩ := e
  have hx2 : e3 = (x : Int) := hx
  subst hx2
  clear hx
  go_enter Tryz.func52, Tryz.ntmps52
  go_wp2
  go_ret
  exact ⟨rfl, (Below.refl _ _).alloc (Nat.le_refl _) _⟩
set_option maxHeartbeats 2000000 in
set_option maxRecDepth 100000 in
theorem numsof_any (l : List G.E3) (v : Value) (w : World) (he : G.EdgesAt w v l) (hl : l.length ≤ 100000) (h : ∀ e ∈ l, 0 ≤ numE e ∧ numE e < (2 ^ 16 : Nat)) :
    Calls Tryz.prog 51 #[v, .func (.func 52) #[] #[]] w fun e w' => ∃ v', e = .returned v' ∧ NumsAt .u16 w' v' (G.tos l) ∧ Below w.heap.size w w' := by
  obtain ⟨a0, cap, rfl, hc⟩ := he
  have HC : Hid _ := hc
  have HL : Hid _ := h
  clear hc h
  obtain ⟨i0, hi, hz0, hz1, hz2⟩ := info_parts Tryz.infoW
  go_enter Tryz.func51, Tryz.ntmps51
  go_wp2_with (at_make; refine wpList_make_own _ rfl _ _ 105 rfl w.heap.size 104 i0 (.int .u16 0) 1 Tryz.underlying105 hi hz0 hz1 _ _ _ l.length rfl rfl (by omega) (by rw [hz2]; omega) (by unfold maxLen; omega) (Nat.le_refl _) ?_; intro w1 hown hgrow)
  have hb1 : Below w.heap.size w w1 := (Below.refl _ _).grown hgrow (Nat.le_refl _) (fun k hk => by cases hk)
  have HO0 : Hid (OwnN w w1 _ []) := ⟨hown, hb1⟩
  clear hgrow hown hb1
  go_loopw [5, 13] (fun v c wr => ∃ k : Nat, k ≤ l.length ∧ c = .int .i64 k ∧ Hid (OwnN w wr v (G.tos (l.take k)))) (fun _ c _ => l.length - (intOf c).toNat)
  case atStart => exact ⟨0, Nat.zero_le _, rfl, HO0.out⟩
  case round =>
    clear HO0
    obtain ⟨k, hk, rfl, HO⟩ := hrel
    by_cases hlt : k < l.length
    · obtain ⟨x, hx⟩ : ∃ x, l[k]? = some x := ⟨_, List.getElem?_eq_getElem hlt⟩
      obtain ⟨g, off, rfl, c0, c1, c2⟩ := HC.out k x hx
      have d0 := cell_kept HO.out.2 _ _ c0
      have d1 := cell_kept HO.out.2 _ _ c1
      have d2 := cell_kept HO.out.2 _ _ c2
      have hkI : (k : Int) < (l.length : Int) := by omega
      have hlk : (G.tos (l.take k)).length = k := by simp [G.tos]; omega
      obtain ⟨h1, h2⟩ := HL.out x (List.mem_of_getElem? hx)
      obtain ⟨y, hy⟩ : ∃ y : Nat, numE x = (y : Int) := ⟨(numE x).toNat, by omega⟩
      have HN : Hid (G.tos (l.take (k + 1)) = G.tos (l.take k) ++ [y]) := (by
        rw [List.take_add_one, hx]
        unfold G.tos
        rw [List.map_append]
        simp only [Option.toList_some, List.map_cons, List.map_nil]
        have e : x.2.2 = (y : Int) := hy
        rw [e]; rfl : _ = _)
      have HF : Hid (Calls Tryz.prog 52 _ (wr.alloc (.cells #[.int .i64 x.1, .int .i64 x.2.1, .int .i64 x.2.2] 41)) _) := ngf_any x y hy (by omega) _
      obtain ⟨x1, x2, x3⟩ := x
      simp only at d0 d1 d2 HF
      obtain ⟨b0, b1, b2⟩ := box3 wr (.int .i64 x1) (.int .i64 x2) (.int .i64 x3) 41
      have HBa : Hid _ := HO.out.2.alloc HO.out.2.size (.cells #[.int .i64 x1, .int .i64 x2, .int .i64 x3] 41)
      have HRa : Hid _ := HO.out.1.alloc (.cells #[.int .i64 x1, .int .i64 x2, .int .i64 x3] 41)
      clear hx c0 c1 c2 hy h1 h2
      go_wp2_with fail
      refine (Calls.mono HF.out ?_)
      rintro e w3 ⟨rfl, hB3⟩
      have hrow := own_below HRa.out hB3
      have HO3 : Hid (OwnN w w3 _ (G.tos (l.take k))) := ⟨hrow, HBa.out.trans (hB3.mono (by have := HO.out.2.size; simp; omega))⟩
      have hsz := HO3.out.2.size
      clear hB3
      go_wp2_with (at_builtin; refine wpList_append_own _ rfl _ _ 105 rfl w.heap.size 104 i0 (.int .u16 0) 1 (16 / 8) Tryz.underlying105 hi hz0 hz1 hz2 rfl (by decide) _ _ _ rfl (hrow.alloc _) ⟨w3.heap.size, 0, none⟩ 1 1 [.int .u16 (y : Int)] rfl rfl ?c1 ?c2 ?c3 ?c4 ?c5 ?_)
      case c1 =>
        intro j u hj
        match j, hj with
        | 0, hj => simp at hj; subst hj; simp [Addr.add]
      case c2 => intro u hu; simp at hu; subst hu; rfl
      case c3 => unfold maxLen; omega
      case c4 => omega
      case c5 => simp; omega
      intro v' w2 hown' hgrow _
      have HO2 : Hid _ := own_snoc (v' := v') (x := y) HO3.out (by rw [hlk]; exact hown') hgrow
      clear hown' hgrow hrow
      go_wp2
      go_roundw
      case rel => exact ⟨k + 1, by omega, by go_num, by rw [HN.out]; exact HO2.out⟩
      case measure => simp [intOf]; omega
    · obtain rfl : k = l.length := by omega
      have HE : Hid _ := nums_own (K := .u16) HO.out.1
      have HB : Hid _ := HO.out.2
      clear HO
      go_wp2
      go_ret
      exact ⟨_, rfl, by have h := HE.out; rwa [List.take_length] at h, HB.out⟩
end Go.Proofs.YtphjbbbnbmafnabGreatDoor.S16
