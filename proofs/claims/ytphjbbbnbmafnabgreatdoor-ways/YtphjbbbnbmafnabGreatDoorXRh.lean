/-
  Graph.Reach: where ways lead whose labels are a text of an expression.
-/
import Derived.Test.YtphjbbbnbmafnabGreatDoorXRc
import Derived.Test.YtphjbbbnbmafnabGreatDoorRxT
namespace Go.Proofs.YtphjbbbnbmafnabGreatDoor.G
open Go.RowKit Go.Shelf Go.Proofs.YtphjbbbnbmafnabGreatDoor.RxM

variable {outs : Nat → List E3}
set_option maxRecDepth 100000 in
set_option maxHeartbeats 4000000 in
theorem ibelow_is (x b : Int) (w : World) :
    Calls Tryz.prog 24 #[.int .i64 x, .int .i64 b] w fun e w' => e = .returned (.bool (decide (0 ≤ x ∧ x < b))) ∧ w' = w := by
  by_cases h1 : 0 ≤ x
  · by_cases h2 : x < b
    · have HD : Hid _ := decide_eq_true (show 0 ≤ x ∧ x < b from ⟨h1, h2⟩)
      rw [HD.out]
      go_enter Tryz.func24, Tryz.ntmps24
      go_wp2
      go_ret
      exact ⟨rfl, rfl⟩
    · have HD : Hid _ := decide_eq_false (show ¬ (0 ≤ x ∧ x < b) from fun h => h2 h.2)
      rw [HD.out]
      go_enter Tryz.func24, Tryz.ntmps24
      go_wp2
      go_ret
      exact ⟨rfl, rfl⟩
  · have HD : Hid _ := decide_eq_false (show ¬ (0 ≤ x ∧ x < b) from fun h => h1 h.1)
    rw [HD.out]
    go_enter Tryz.func24, Tryz.ntmps24
    go_wp2
    go_ret
    exact ⟨rfl, rfl⟩
/-- what Reach answers -/
def RchPost (outs : Nat → List E3) (u : Int) (q : ByteArray) (n s : Nat) (w : World) (e : Ending) (w' : World) : Prop :=
  ∃ rv c res, e = .returned (.tuple #[rv, .int .i64 c]) ∧ Below w.heap.size w w' ∧ w'.ownsRow w.heap.size 3 1 rv res.length (ints res) ∧
  ((¬ (0 ≤ u ∧ u < (n : Int)) ∧ c = 1 ∧ res = []) ∨ ((0 ≤ u ∧ u < (n : Int)) ∧ (200 < q.size ∨ RxM.read s (codes q) = none) ∧ c = 6 ∧ res = []) ∨
    ((0 ≤ u ∧ u < (n : Int)) ∧ q.size ≤ 200 ∧ ∃ t, RxM.read s (codes q) = some t ∧ c = 0 ∧ res.Pairwise (· < ·) ∧ ∀ v, v ∈ res ↔ v < n ∧ rel (Eof outs) t u.toNat v))
theorem own_nil (w : World) (b : Nat) (e : TypeId) (k : Nat) : w.ownsRow b e k (.slice none 0 0) 0 [] := ⟨by simp, .inl ⟨rfl, rfl⟩⟩
set_option maxRecDepth 100000 in
set_option maxHeartbeats 8000000 in
theorem greach_any (Gp n s : Nat) (u : Int) (q : ByteArray) (w : World) (hT : TzAt w) (HOut : OutC outs w Gp n) (hok : OutsOk outs n s) (hn : n ≤ 10000) (hs : s ≤ 26) (h0 : w.cell? ⟨Gp, 0, none⟩ = some (.int .i64 (n : Int))) (h1 : w.cell? ⟨Gp, 1, none⟩ = some (.int .i64 (s : Int))) :
    Calls Tryz.prog 10 #[.pointer (some ⟨Gp, 0, none⟩), .int .i64 u, .string q] w (RchPost outs u q n s w) := by
  have HIb : Hid (Calls Tryz.prog 24 #[.int .i64 u, .int .i64 (n : Int)] w _) := ibelow_is u (n : Int) w
  have HRd : Hid (Calls Tryz.prog 25 #[.string q, .int .i64 (s : Int)] w _) := read_any q s hs w hT
  have HH : Hid (_ ∧ _ ∧ _ ∧ _) := ⟨hT, HOut, hok, h0⟩
  clear hT HOut hok
  by_cases hu : 0 ≤ u ∧ u < (n : Int)
  · obtain ⟨un, hun⟩ : ∃ un : Nat, u = (un : Int) := ⟨u.toNat, by omega⟩
    have HU : Hid (_ ∧ _) := ⟨hu, hun⟩
    clear hu hun
    go_enter Tryz.func10, Tryz.ntmps10
    go_wp2_with fail
    refine HIb.out.mono ?_
    rintro e w1 ⟨rfl, rfl⟩
    rw [decide_eq_true HU.out.1]
    go_wp2_with fail
    refine HRd.out.mono ?_
    rintro e w2 ⟨hB, ⟨rfl, hno⟩ | ⟨X, t, ss, ts, en, rfl, hq, hrd, hE⟩⟩
    · have HB : Hid (_ ∧ _) := ⟨hB, hno⟩
      clear hB hno h0 h1
      go_wp2
      go_ret2
      exact ⟨_, _, [], rfl, HB.out.1, own_nil _ _ _ _, .inr (.inl ⟨HU.out.1, HB.out.2, rfl, rfl⟩)⟩
    · have hsz : size t ≤ 200 := Nat.le_trans (read_size hrd) (by rw [codes_size]; exact hq)
      have hr := reach_any (outs := outs) t ss ts en s un n Gp X w2 hE (TzAt.below HH.out.1 hB) (fun W hW => HH.out.2.1 W (hB.trans (hW.mono hB.size))) HH.out.2.2.1 hn (by have := HU.out; omega) hsz (cell_kept hB _ _ HH.out.2.2.2)
      rw [← HU.out.2] at hr
      have HR : Hid (Calls Tryz.prog 26 #[.pointer (some ⟨Gp, 0, none⟩), .int .i64 u, .pointer (some ⟨X, 0, none⟩)] w2 _) := hr
      have HB : Hid (_ ∧ _ ∧ _) := ⟨hB, hq, hrd⟩
      clear hr hB hq hrd hE h0 h1
      go_wp2_with fail
      refine HR.out.mono ?_
      rintro e w3 ⟨rv, res, rfl, hB3, ho, hpw, hmem⟩
      have HF : Hid (_ ∧ _ ∧ _ ∧ _) := ⟨hB3, ho, hpw, hmem⟩
      clear hB3 ho hpw hmem
      go_wp2
      go_ret2
      refine ⟨rv, _, res, rfl, HB.out.1.trans (HF.out.1.mono HB.out.1.size), own_baseX HF.out.2.1 HB.out.1.size, .inr (.inr ⟨HU.out.1, HB.out.2.1, t, HB.out.2.2, rfl, HF.out.2.2.1, fun v => ?_⟩)⟩
      rw [HF.out.2.2.2 v, HU.out.2, Int.toNat_natCast]
  · have HU : Hid (¬ (0 ≤ u ∧ u < (n : Int))) := hu
    clear hu
    go_enter Tryz.func10, Tryz.ntmps10
    go_wp2_with fail
    refine HIb.out.mono ?_
    rintro e w1 ⟨rfl, rfl⟩
    rw [decide_eq_false HU.out]
    go_wp2
    go_ret2
    exact ⟨_, _, [], rfl, Below.refl _ _, own_nil _ _ _ _, .inl ⟨HU.out, rfl, rfl⟩⟩
end Go.Proofs.YtphjbbbnbmafnabGreatDoor.G
