/-
  The law's look at its book (book.looks): every list reads as its owner wrote it: true; nothing is written.
  The law's play on two graphs (trellislaw.graph, plays): a script of steps in turns, its book looked at behind each: true; what was there is as it was.
-/
import Derived.Test.YtphjbbbnbmafnaaGreatDoorTake
import Derived.Test.YtphjbbbnbmafnaaGreatDoorComp
import Derived.Test.YtphjbbbnbmafnaaGreatDoorStq
import Derived.Test.YtphjbbbnbmafnaaGreatDoorBlds
namespace Go.Proofs.YtphjbbbnbmafnaaGreatDoor.G
open Go.RowKit

theorem own_form {w : World} {base : Nat} {e : TypeId} {k : Nat} {v : Value} {n : Nat} {xs : List Value} (h : w.ownsRow base e k v n xs) : ∃ a c, v = .slice a n c := by
  rcases h.2 with ⟨rfl, rfl⟩ | ⟨g, cap, cur, rfl, _⟩
  · exact ⟨none, 0, rfl⟩
  · exact ⟨_, cap, rfl⟩
/-- an entry's two cells -/
theorem own_entry {w : World} {base c : Nat} {e : TypeId} {a : Option Addr} {l : List (Value × Int)} (h : w.ownsRow base e 2 (.slice a l.length c) l.length (flatB l)) (k : Nat) (p : Value × Int) (hp : l[k]? = some p) : ∃ g, a = some ⟨g, 0, none⟩ ∧ w.cell? ⟨g, k * 2, none⟩ = some p.1 ∧ w.cell? ⟨g, k * 2 + 1, none⟩ = some (.int .i64 p.2) := by
  have hk := (List.getElem?_eq_some_iff.1 hp).1
  rcases h.2 with ⟨_, h0⟩ | ⟨g, cap, cur, hv, _, hg, _, _, _, ht⟩
  · omega
  · injection hv with e1 _ _
    obtain ⟨h0, h1⟩ := flatB_at l k p hp
    rw [← ht, List.getElem?_take_of_lt (by omega), Array.getElem?_toList] at h0 h1
    exact ⟨g, e1, by rw [cell_of_row w g _ cur _ _ hg]; exact h0, by rw [cell_of_row w g _ cur _ _ hg]; exact h1⟩
set_option maxHeartbeats 8000000 in
set_option maxRecDepth 100000 in
theorem looks_any {w : World} {B N : Nat} {v1 v2 : Value} {es is : List (Value × Int)} (hb : Bk w B N v1 v2 es is) (hn1 : es.length ≤ 6000000000000) (hn2 : is.length ≤ 6000000000000) :
    Calls Tryz.prog 9 #[.pointer (some ⟨B, 0, none⟩)] w fun e w' => e = .returned (.bool true) ∧ Below w.heap.size w w' := by
  obtain ⟨a1, c1, rfl⟩ := own_form hb.own1
  obtain ⟨a2, c2, rfl⟩ := own_form hb.own2
  have hrow := hb.row
  have b1 : w.cell? ⟨B, 1, none⟩ = some (.slice a1 es.length c1) := by rw [cell_of_row _ _ 1 _ _ _ hrow]; rfl
  have b2 : w.cell? ⟨B, 2, none⟩ = some (.slice a2 is.length c2) := by rw [cell_of_row _ _ 2 _ _ _ hrow]; rfl
  have HBk : Hid _ := hb
  clear hb hrow
  go_enter Tryz.func9, Tryz.ntmps9
  go_wp2
  go_loopw [3] (fun sk wr => ∃ k q : Nat, k ≤ es.length ∧ sk = .int .i64 (k : Int) ∧ wr = w.drewN q) (fun sk _ => es.length - (intOf sk).toNat)
  case atStart => exact ⟨0, 0, Nat.zero_le _, rfl, rfl⟩
  case round =>
    obtain ⟨k, q, hk, rfl, rfl⟩ := hrel
    by_cases hlt : k < es.length
    · obtain ⟨p, hp⟩ : ∃ p, es[k]? = some p := ⟨_, List.getElem?_eq_getElem hlt⟩
      have hm := List.mem_of_getElem? hp
      obtain ⟨g, rfl, d0, d1⟩ := own_entry HBk.out.own1 k p hp
      obtain ⟨a0, len, cap, hpe, hlen, hc⟩ := HBk.out.l1 p hm
      obtain ⟨p1, n⟩ := p
      simp only at hpe d0 d1 hc
      subst hpe
      have HC : Hid _ := hc
      have hkI : (k : Int) < (es.length : Int) := by omega
      clear hp hm hc
      go_wp2
      go_loopw [4] (fun si wr => ∃ i q : Nat, i ≤ len ∧ si = .int .i64 (i : Int) ∧ wr = w.drewN q) (fun si _ => len - (intOf si).toNat)
      case atStart => exact ⟨0, q, Nat.zero_le _, rfl, rfl⟩
      case round =>
        obtain ⟨i, q2, hi, rfl, rfl⟩ := hrel
        by_cases hlt2 : i < len
        · obtain ⟨g', off, rfl, e0, e12⟩ := HC.out i hlt2
          obtain ⟨e1, e2⟩ := e12 trivial
          clear e12
          have hiI : (i : Int) < (len : Int) := by omega
          have gE := guardE
          have hEq := eqlE n 0 0 n 0 0 true (decide_eq_true rfl)
          go_wp2
          go_quiet (fail)
          go_wp2
          go_roundw
          case rel => exact ⟨i + 1, _, by omega, by go_num, rfl⟩
          case measure => simp [intOf]; omega
        · obtain rfl : i = len := by omega
          go_wp2
          go_roundw
          case rel => exact ⟨k + 1, _, by omega, by go_num, rfl⟩
          case measure => simp [intOf]; omega
    · obtain rfl : k = es.length := by omega
      go_wp2
      go_loopw [5] (fun sk wr => ∃ k q : Nat, k ≤ is.length ∧ sk = .int .i64 (k : Int) ∧ wr = w.drewN q) (fun sk _ => is.length - (intOf sk).toNat)
      case atStart => exact ⟨0, q, Nat.zero_le _, rfl, rfl⟩
      case round =>
        obtain ⟨k, q, hk, rfl, rfl⟩ := hrel
        by_cases hlt : k < is.length
        · obtain ⟨p, hp⟩ : ∃ p, is[k]? = some p := ⟨_, List.getElem?_eq_getElem hlt⟩
          have hm := List.mem_of_getElem? hp
          obtain ⟨g, rfl, d0, d1⟩ := own_entry HBk.out.own2 k p hp
          obtain ⟨a0, len, cap, hpe, hlen, hc⟩ := HBk.out.l2 p hm
          obtain ⟨p1, n⟩ := p
          simp only at hpe d0 d1 hc
          subst hpe
          have HC : Hid _ := hc
          have hkI : (k : Int) < (is.length : Int) := by omega
          clear hp hm hc
          go_wp2
          go_loopw [6] (fun si wr => ∃ i q : Nat, i ≤ len ∧ si = .int .i64 (i : Int) ∧ wr = w.drewN q) (fun si _ => len - (intOf si).toNat)
          case atStart => exact ⟨0, q, Nat.zero_le _, rfl, rfl⟩
          case round =>
            obtain ⟨i, q2, hi, rfl, rfl⟩ := hrel
            by_cases hlt2 : i < len
            · obtain ⟨g', off, rfl, e0, _⟩ := HC.out i hlt2
              have hiI : (i : Int) < (len : Int) := by omega
              rw [Nat.mul_one] at e0
              go_wp2
              go_quiet (fail)
              go_wp2
              go_roundw
              case rel => exact ⟨i + 1, _, by omega, by go_num, rfl⟩
              case measure => simp [intOf]; omega
            · obtain rfl : i = len := by omega
              go_wp2
              go_roundw
              case rel => exact ⟨k + 1, _, by omega, by go_num, rfl⟩
              case measure => simp [intOf]; omega
        · obtain rfl : k = is.length := by omega
          go_wp2
          go_ret
          exact ⟨rfl, below_drewN (Below.refl _ _) _⟩
end Go.Proofs.YtphjbbbnbmafnaaGreatDoor.G

namespace Go.Proofs.YtphjbbbnbmafnaaGreatDoor.G
open Go.RowKit

attribute [local go_sem ↓] Go.wp_at_zero Go.wp_at_succ
/-- a pair, or none -/
def PairOr (w : World) (v : Value) : Prop := v = .pointer none ∨ ∃ p n s L, v = .pointer (some ⟨p, 0, none⟩) ∧ PairAt w p n s L
theorem PairOr.below {w w' : World} {v : Value} (h : PairOr w v) (hB : Below w.heap.size w w') : PairOr w' v := by
  rcases h with h | ⟨p, n, s, L, h1, h2⟩
  · exact .inl h
  · exact .inr ⟨p, n, s, L, h1, h2.below hB⟩
set_option maxHeartbeats 2000000 in
set_option maxRecDepth 100000 in
theorem lgraph_any (n s : Int) (l : List E3) (v : Value) (w : World) (he : EdgesAt w v l) (hcap : CapOk v) (hlen : l.length * 24 ≤ 140737488351232) :
    Calls Tryz.prog 7 #[.int .i64 n, .int .i64 s, v] w fun e w' => ∃ z, e = .returned (.tuple #[z, .bool true]) ∧ PairOr w' z ∧ Below w.heap.size w w' := by
  have HBt : Hid (Calls Tryz.prog 10 _ w _) := built_any n s l v w he hcap hlen
  obtain ⟨a0, cap, rfl, _⟩ := he
  clear hcap
  by_cases hok : okG n s l
  case neg =>
    rw [show imgOf n s l = ⟨#[]⟩ by unfold imgOf; rw [if_neg hok]] at HBt
    clear hok
    go_enter Tryz.func7, Tryz.ntmps7
    go_wp2_with fail
    refine (Calls.mono HBt.out ?_)
    rintro e w1 ⟨rfl, hB1⟩
    have HB1 : Hid _ := hB1
    clear hB1
    go_wp2
    go_ret2
    exact ⟨_, rfl, .inl rfl, HB1.out⟩
  case pos =>
    obtain ⟨n, rfl⟩ : ∃ m : Nat, n = (m : Int) := ⟨n.toNat, by have := hok.1.1; omega⟩
    obtain ⟨s, rfl⟩ : ∃ m : Nat, s = (m : Int) := ⟨s.toNat, by have := hok.1.2.2.1; omega⟩
    have his := imgOf_is hok
    generalize imgOf (n : Int) (s : Int) l = img at HBt his
    have hnp := his.size
    have hsz : img.size ≤ 9223372036854775807 := by have := hnp.2.1; have := hnp.2.2.1; omega
    have hne : ¬ img = { data := #[] } := fun e => by
      have h1 := hnp.2.1
      have h2 := hnp.2.2.1
      rw [e] at h1
      have : (ByteArray.mk #[]).size = 0 := rfl
      omega
    have hne2 : img.toList.isEmpty = false := by
      rw [← decide_eq_emptyBytes img]
      exact decide_eq_false hne
    have HO : Hid (∀ W, Calls Tryz.prog 11 #[.string img] W (OpenedPost img W)) := fun W => opened_any img W hsz
    have HIs : Hid _ := his
    clear hok hnp his
    go_enter Tryz.func7, Tryz.ntmps7
    go_wp2_with fail
    refine (Calls.mono HBt.out ?_)
    rintro e w1 ⟨rfl, hB1⟩
    have HB1 : Hid _ := hB1
    clear hB1
    go_wp2_with fail
    refine (Calls.mono (HO.out w1) ?_)
    rintro e w2 ⟨hB2, ⟨h1, _⟩ | ⟨n', s', L, q, _, rfl, hp⟩⟩
    · exact absurd HIs.out (h1 _ _ _)
    have HB2 : Hid _ := chain HB1.out hB2
    have HP : Hid _ := hp
    clear hB2 hp HIs
    go_wp2
    go_ret2
    exact ⟨_, rfl, .inr ⟨q, n', s', L, rfl, HP.out⟩, HB2.out⟩
/-- a step of a script -/
structure Sp where
  k : Int
  h : Int
  f : Int
  l : Int
  t : Int
  x1 : Int
  x2 : Int
  y1 : Int
  y2 : Int
  z1 : Int
  z2 : Int
  q : ByteArray
def i64 (x : Int) : Prop := -9223372036854775808 ≤ x ∧ x ≤ 9223372036854775807
/-- a script in memory -/
def ScriptAt (w : World) (a0 : Option Addr) (len : Nat) (S : Nat → Sp) : Prop :=
  ∀ i, i < len → (i64 (S i).f ∧ i64 (S i).l ∧ i64 (S i).t ∧ (S i).q.size ≤ 9223372036854775807) ∧ ∃ g off, a0 = some ⟨g, off, none⟩ ∧
    w.cell? ⟨g, off + i * 12, none⟩ = some (.int .i64 (S i).k) ∧ w.cell? ⟨g, off + i * 12 + 1, none⟩ = some (.int .i64 (S i).h) ∧
    w.cell? ⟨g, off + i * 12 + 2, none⟩ = some (.int .i64 (S i).f) ∧ w.cell? ⟨g, off + i * 12 + 3, none⟩ = some (.int .i64 (S i).l) ∧ w.cell? ⟨g, off + i * 12 + 4, none⟩ = some (.int .i64 (S i).t) ∧
    w.cell? ⟨g, off + i * 12 + 5, none⟩ = some (.int .i64 (S i).x1) ∧ w.cell? ⟨g, off + i * 12 + 6, none⟩ = some (.int .i64 (S i).x2) ∧
    w.cell? ⟨g, off + i * 12 + 7, none⟩ = some (.int .i64 (S i).y1) ∧ w.cell? ⟨g, off + i * 12 + 8, none⟩ = some (.int .i64 (S i).y2) ∧
    w.cell? ⟨g, off + i * 12 + 9, none⟩ = some (.int .i64 (S i).z1) ∧ w.cell? ⟨g, off + i * 12 + 10, none⟩ = some (.int .i64 (S i).z2) ∧
    w.cell? ⟨g, off + i * 12 + 11, none⟩ = some (.string (S i).q)
/-- what a step leaves, whatever it takes -/
def StepPost2 (B N : Nat) (es is : List (Value × Int)) (w : World) (e : Ending) (w' : World) : Prop :=
  e = .returned (.bool true) ∧ (∃ N' v1' v2' es' is', Bk w' B N' v1' v2' es' is' ∧ N' ≤ N + 1 ∧ es'.length ≤ es.length + 4 ∧ is'.length ≤ is.length + 4) ∧ Below B w w'
theorem StepPost.two {B N : Nat} {v2 : Value} {es is : List (Value × Int)} {w : World} {e : Ending} {w' : World} (h : StepPost B N v2 es is w e w') : StepPost2 B N es is w e w' := by
  obtain ⟨h1, ⟨N', v1', es', h2, h3, h4⟩, h5⟩ := h
  exact ⟨h1, ⟨N', v1', v2, es', is, h2, h3, h4, by omega⟩, h5⟩
/-- every step up to a kind -/
def StepsTo (M : Int) : Prop := ∀ (w : World) (B N : Nat) (v1 v2 : Value) (es is : List (Value × Int)) (p n s : Nat) (L : List E3) (st : Sp), Bk w B N v1 v2 es is → PairAt w p n s L → N ≤ 2000000000000 → es.length ≤ 5500000000000 → is.length ≤ 5500000000000 → st.k ≤ M → (i64 st.f ∧ i64 st.l ∧ i64 st.t ∧ st.q.size ≤ 9223372036854775807) →
  Calls Tryz.prog 8 #[.pointer (some ⟨B, 0, none⟩), .pointer (some ⟨p, 0, none⟩), .agg #[.int .i64 st.k, .int .i64 st.h, .int .i64 st.f, .int .i64 st.l, .int .i64 st.t, .int .i64 st.x1, .int .i64 st.x2, .int .i64 st.y1, .int .i64 st.y2, .int .i64 st.z1, .int .i64 st.z2, .string st.q]] w (StepPost2 B N es is w)
theorem bk_new (w : World) : Bk (w.alloc (.cells #[.int .i64 0, .slice none 0 0, .slice none 0 0] 36)) w.heap.size 0 (.slice none 0 0) (.slice none 0 0) [] [] :=
  ⟨heap_alloc_new w _, World.ownsRow_nil _ _ _ _, World.ownsRow_nil _ _ _ _, fun g hg => by simp [Value.ownBlock] at hg, fun p hp => by simp at hp, fun p hp => by simp at hp, fun p hp => by simp at hp⟩
set_option maxHeartbeats 16000000 in
set_option maxRecDepth 100000 in
theorem plays_any (M : Int) (hM : StepsTo M) (z0 z1 z2 y0 y1 y2 : Int) (l m : List E3) (vl vm : Value) (a0 : Option Addr) (len cap : Nat) (S : Nat → Sp) (w : World) (hl : EdgesAt w vl l) (hlc : CapOk vl) (hll : l.length * 24 ≤ 140737488351232) (hm : EdgesAt w vm m) (hmc : CapOk vm) (hml : m.length * 24 ≤ 140737488351232) (hS : ScriptAt w a0 len S) (hlen : len * 104 ≤ 140737488351232) :
    Calls Tryz.prog 5 #[.agg #[.int .i64 z0, .int .i64 z1, .int .i64 z2], vl, .agg #[.int .i64 y0, .int .i64 y1, .int .i64 y2], vm, .slice a0 len cap, .int .i64 M] w fun e w' => e = .returned (.bool true) ∧ Below w.heap.size w w' := by
  obtain ⟨W0, hW0⟩ : ∃ W0, W0 = (w.alloc (.cells #[.int .i64 z0, .int .i64 z1, .int .i64 z2] 23)).alloc (.cells #[.int .i64 y0, .int .i64 y1, .int .i64 y2] 23) := ⟨_, rfl⟩
  have hJ : Below w.heap.size w W0 := by rw [hW0]; exact bel_al (below1 _ _)
  have k0 : W0.cell? ⟨w.heap.size, 0, none⟩ = some (.int .i64 z0) := by rw [hW0]; exact cell_kept (below1 _ _) _ _ (cell_new _ _ _ 0)
  have k1 : W0.cell? ⟨w.heap.size, 1, none⟩ = some (.int .i64 z1) := by rw [hW0]; exact cell_kept (below1 _ _) _ _ (cell_new _ _ _ 1)
  have k3 : W0.cell? ⟨w.heap.size + 1, 0, none⟩ = some (.int .i64 y0) := by rw [hW0, ← World.size_alloc w (.cells #[.int .i64 z0, .int .i64 z1, .int .i64 z2] 23)]; exact cell_new _ _ _ 0
  have k4 : W0.cell? ⟨w.heap.size + 1, 1, none⟩ = some (.int .i64 y1) := by rw [hW0, ← World.size_alloc w (.cells #[.int .i64 z0, .int .i64 z1, .int .i64 z2] 23)]; exact cell_new _ _ _ 1
  have HF : Hid (∀ W, Calls Tryz.prog 6 #[] W _) := fun W => first_any W
  have HG1 : Hid (∀ W, Below W0.heap.size W0 W → Calls Tryz.prog 7 #[.int .i64 z0, .int .i64 z1, vl] W _) := fun W h => lgraph_any z0 z1 l vl W ((hl.below hJ).below h) hlc hll
  have HG2 : Hid (∀ W, Below W0.heap.size W0 W → Calls Tryz.prog 7 #[.int .i64 y0, .int .i64 y1, vm] W _) := fun W h => lgraph_any y0 y1 m vm W ((hm.below hJ).below h) hmc hml
  have HS : Hid _ := hS
  have HM : Hid _ := hM
  have HJ : Hid _ := hJ
  have hn1 : len ≤ 1354000000000 := by omega
  clear hl hlc hll hm hmc hml hS hM hJ
  go_enter Tryz.func5, Tryz.ntmps5
  go_wp2_with fail
  rw [← hW0]
  refine (Calls.mono (HF.out _) ?_)
  rintro e w1 ⟨rfl, hB1⟩
  have j0 := cell_kept hB1 _ _ k0
  have j1 := cell_kept hB1 _ _ k1
  have j3 := cell_kept hB1 _ _ k3
  have j4 := cell_kept hB1 _ _ k4
  have HB1 : Hid _ := hB1
  have HW0 : Hid _ := hW0
  clear hB1 k0 k1 k3 k4 HF hW0
  go_wp2_with fail
  refine (Calls.mono (HG1.out w1 HB1.out) ?_)
  rintro e w2 ⟨pv, rfl, hpv, hB2⟩
  have HPv : Hid _ := hpv
  have i3 := cell_kept hB2 _ _ j3
  have i4 := cell_kept hB2 _ _ j4
  have HB2 : Hid _ := chain HB1.out hB2
  clear hB2 hpv j0 j1 j3 j4 HG1
  go_wp2_with fail
  refine (Calls.mono (HG2.out w2 HB2.out) ?_)
  rintro e w3 ⟨qv, rfl, hqv, hB3⟩
  have HQv : Hid (PairOr w3 qv) := hqv
  have HPv3 : Hid (PairOr w3 pv) := PairOr.below HPv.out hB3
  have HB3 : Hid _ := chain HJ.out (chain HB2.out hB3)
  clear hB3 hqv i3 i4 HG2 HPv
  go_wp2
  obtain ⟨W4, hW4⟩ : ∃ W4, W4 = w3.alloc (.cells #[.int .i64 0, .slice none 0 0, .slice none 0 0] 36) := ⟨_, rfl⟩
  rw [← hW4]
  have HBk0 : Hid (Bk W4 w3.heap.size 0 (.slice none 0 0) (.slice none 0 0) [] []) := (by rw [hW4]; exact bk_new w3 : Bk _ _ _ _ _ _ _)
  have HB4 : Hid (Below w3.heap.size w3 W4) := (by rw [hW4]; exact below1 _ _ : Below _ _ _)
  clear hW4
  go_loopw [19] (fun si wr => ∃ i : Nat, i ≤ len ∧ si = .int .i64 (i : Int) ∧ Hid ((∃ N v1 v2 es is, Bk wr w3.heap.size N v1 v2 es is ∧ N ≤ i ∧ es.length ≤ 4 * i ∧ is.length ≤ 4 * i) ∧ Below w3.heap.size w3 wr)) (fun si _ => len - (intOf si).toNat)
  case atStart => exact ⟨0, Nat.zero_le _, rfl, ⟨⟨0, _, _, [], [], HBk0.out, by simp, by simp, by simp⟩, HB4.out⟩⟩
  case round =>
    obtain ⟨i, hi, rfl, HI⟩ := hrel
    by_cases hlt : i < len
    · obtain ⟨hok, g, off, rfl, c0, c1, c2, c3, c4, c5, c6, c7, c8, c9, c10, c11⟩ := HS.out i hlt
      have hB := chain HB3.out HI.out.2
      have d0 := cell_kept hB _ _ c0
      have d1 := cell_kept hB _ _ c1
      have d2 := cell_kept hB _ _ c2
      have d3 := cell_kept hB _ _ c3
      have d4 := cell_kept hB _ _ c4
      have d5 := cell_kept hB _ _ c5
      have d6 := cell_kept hB _ _ c6
      have d7 := cell_kept hB _ _ c7
      have d8 := cell_kept hB _ _ c8
      have d9 := cell_kept hB _ _ c9
      have d10 := cell_kept hB _ _ c10
      have d11 := cell_kept hB _ _ c11
      have hiI : (i : Int) < (len : Int) := by omega
      clear c0 c1 c2 c3 c4 c5 c6 c7 c8 c9 c10 c11 hB
      obtain ⟨st, hst⟩ : ∃ st, st = S i := ⟨_, rfl⟩
      rw [← hst] at hok d0 d1 d2 d3 d4 d5 d6 d7 d8 d9 d10 d11
      clear hst
      have HOk : Hid _ := hok
      clear hok
      have hend : Hid ((∃ N v1 v2 es is, Bk wr w3.heap.size N v1 v2 es is ∧ N ≤ i + 1 ∧ es.length ≤ 4 * (i + 1) ∧ is.length ≤ 4 * (i + 1)) ∧ Below w3.heap.size w3 wr) := (by
        obtain ⟨⟨N, v1, v2, es, is, h1, h2, h3, h4⟩, h5⟩ := HI.out
        exact ⟨⟨N, v1, v2, es, is, h1, by omega, by omega, by omega⟩, h5⟩ : _ ∧ _)
      -- the graph that is asked
      have hmain : ∀ ov : Value, PairOr w3 ov → (ov = .pointer none ∨ ∃ p, ov = .pointer (some ⟨p, 0, none⟩) ∧ (st.k > M ∨ (¬ st.k > M ∧ Calls Tryz.prog 8 #[.pointer (some ⟨w3.heap.size, 0, none⟩), .pointer (some ⟨p, 0, none⟩), .agg #[.int .i64 st.k, .int .i64 st.h, .int .i64 st.f, .int .i64 st.l, .int .i64 st.t, .int .i64 st.x1, .int .i64 st.x2, .int .i64 st.y1, .int .i64 st.y2, .int .i64 st.z1, .int .i64 st.z2, .string st.q]] wr fun e w' => e = .returned (.bool true) ∧ ((∃ N v1 v2 es is, Bk w' w3.heap.size N v1 v2 es is ∧ N ≤ i + 1 ∧ es.length ≤ 4 * (i + 1) ∧ is.length ≤ 4 * (i + 1)) ∧ Below w3.heap.size w3 w')))) := fun ov hov => by
        rcases hov with h | ⟨p, n, s, L, h1, h2⟩
        · exact .inl h
        · by_cases hk : st.k > M
          · exact .inr ⟨p, h1, .inl hk⟩
          · obtain ⟨⟨N, v1, v2, es, is, b1, b2, b3, b4⟩, b5⟩ := HI.out
            refine .inr ⟨p, h1, .inr ⟨hk, ?_⟩⟩
            refine (HM.out wr w3.heap.size N v1 v2 es is p n s L st b1 (h2.below b5) (by omega) (by omega) (by omega) (by omega) HOk.out).mono ?_
            rintro e w' ⟨rfl, ⟨N', v1', v2', es', is', q1, q2, q3, q4⟩, q5⟩
            exact ⟨rfl, ⟨N', v1', v2', es', is', q1, by omega, by omega, by omega⟩, b5.trans q5⟩
      have HP1 : Hid _ := hmain pv HPv3.out
      have HP2 : Hid _ := hmain qv HQv.out
      clear hmain
      have HIx : Hid _ := HI.out
      clear HI
      obtain ⟨W5, rfl⟩ : ∃ W5, W5 = wr := ⟨wr, rfl⟩
      have HL : Hid (∀ w', ((∃ N v1 v2 es is, Bk w' w3.heap.size N v1 v2 es is ∧ N ≤ i + 1 ∧ es.length ≤ 4 * (i + 1) ∧ is.length ≤ 4 * (i + 1)) ∧ Below w3.heap.size w3 w') → Calls Tryz.prog 9 #[.pointer (some ⟨w3.heap.size, 0, none⟩)] w' fun e w'' => e = .returned (.bool true) ∧ ((∃ N v1 v2 es is, Bk w'' w3.heap.size N v1 v2 es is ∧ N ≤ i + 1 ∧ es.length ≤ 4 * (i + 1) ∧ is.length ≤ 4 * (i + 1)) ∧ Below w3.heap.size w3 w'')) := (fun w' h => by
        obtain ⟨⟨N, v1, v2, es, is, b1, b2, b3, b4⟩, b5⟩ := h
        refine (looks_any b1 (by omega) (by omega)).mono ?_
        rintro e w'' ⟨rfl, h⟩
        exact ⟨rfl, ⟨N, v1, v2, es, is, b1.below h, b2, b3, b4⟩, chain b5 h⟩ : ∀ w', _)
      cases hH1 : (bits BinOp.and IntKind.i64 st.h 1 == 1)
      · clear HP2
        rcases HP1.out with h | ⟨p, h1, h2⟩
        · subst h
          go_wp2
          go_roundw
          case rel => exact ⟨i + 1, by omega, by go_num, hend.out⟩
          case measure => simp [intOf]; omega
        · subst h1
          rcases h2 with hk | ⟨hk, hc⟩
          · go_wp2
            go_roundw
            case rel => exact ⟨i + 1, by omega, by go_num, hend.out⟩
            case measure => simp [intOf]; omega
          · have HC : Hid _ := hc
            clear hc
            go_wp2_with fail
            refine (Calls.mono HC.out ?_)
            rintro e w6 ⟨rfl, h6⟩
            have HC6 : Hid _ := HL.out w6 h6
            clear h6 HC hend
            go_wp2_with fail
            refine (Calls.mono HC6.out ?_)
            rintro e w7 ⟨rfl, h7⟩
            have HE7 : Hid _ := h7
            clear h7 HC6
            go_wp2
            go_roundw
            case rel => exact ⟨i + 1, by omega, by go_num, HE7.out⟩
            case measure => simp [intOf]; omega
      · clear HP1
        rcases HP2.out with h | ⟨p, h1, h2⟩
        · subst h
          go_wp2
          go_roundw
          case rel => exact ⟨i + 1, by omega, by go_num, hend.out⟩
          case measure => simp [intOf]; omega
        · subst h1
          rcases h2 with hk | ⟨hk, hc⟩
          · go_wp2
            go_roundw
            case rel => exact ⟨i + 1, by omega, by go_num, hend.out⟩
            case measure => simp [intOf]; omega
          · have HC : Hid _ := hc
            clear hc
            go_wp2_with fail
            refine (Calls.mono HC.out ?_)
            rintro e w6 ⟨rfl, h6⟩
            have HC6 : Hid _ := HL.out w6 h6
            clear h6 HC hend
            go_wp2_with fail
            refine (Calls.mono HC6.out ?_)
            rintro e w7 ⟨rfl, h7⟩
            have HE7 : Hid _ := h7
            clear h7 HC6
            go_wp2
            go_roundw
            case rel => exact ⟨i + 1, by omega, by go_num, HE7.out⟩
            case measure => simp [intOf]; omega
    · obtain rfl : i = len := by omega
      have HB : Hid _ := chain HB3.out HI.out.2
      clear HI
      go_wp2
      go_ret
      exact ⟨rfl, HB.out⟩
end Go.Proofs.YtphjbbbnbmafnaaGreatDoor.G
