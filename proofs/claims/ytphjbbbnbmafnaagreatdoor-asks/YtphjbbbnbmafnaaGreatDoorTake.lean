/-
  The law's book as it lies: lists that came out, each full of its owner's number: how it is kept where other memory is written, and how an entry is put behind.
  The law's book takes a list of edges that came out (book.takeEdges): it compares it, writes it full of a number of its own, and puts it and three longer ones behind: what it answers, and that every list of the book reads on as its owner wrote it.
-/
import Derived.Test.YtphjbbbnbmafnaaGreatDoorEqE
import Derived.Deep.DeepAppendWide
import Derived.Deep.AppendLies
import Derived.Deep.RegionLaw
import Derived.Test.YtphjbbbnbmafnaaGreatDoorComp
import Derived.Test.YtphjbbbnbmafnaaGreatDoorPSp16
import Derived.Test.YtphjbbbnbmafnaaGreatDoorPOpen
import Derived.Deep.DeepCutAuto
namespace Go.Proofs.YtphjbbbnbmafnaaGreatDoor.G
open Go.RowKit

section
variable {P : Program} (w : World)
/-- append onto a row of one's own: written in place, or a new block and nothing else -/
theorem run_append_keep (t ty : TypeId) (base : Nat) (e : TypeId) (i : TypeInfo) (z : Value) (size bytes : Nat) (ht : P.underlying t = some (.slice e)) (hi : P.info? e = some i) (hz : i.zero = some z)
    (hsize : i.size = size) (hby : i.bytes = bytes) (hzs : z.cells.size = size) (hsz : 0 < size)
    (v : Value) (n : Nat) (xs : List Value) (hown : w.ownsRow base e size v n xs)
    (ad : Addr) (m c : Nat) (news : List Value) (hl : news.length = m * size) (hnews : ∀ j u, news[j]? = some u → w.cell? (ad.add j) = some u) (h1 : ∀ u ∈ news, u.oneCell' = true)
    (hm : 0 < m) (h63 : n + m ≤ maxLen) (hbytes : ((n + m) + (n + m) / 4 + 192) * bytes ≤ 281474976710656) (hbase : base ≤ w.heap.size) :
    ∃ g cap w', (Builtin.append_ #[t, t] ty #[v, .slice (some ad) m c]).run P w = .ok (.slice (some ⟨g, 0, none⟩) (n + m) cap) w' ∧
      w'.ownsRow base e size (.slice (some ⟨g, 0, none⟩) (n + m) cap) (n + m) (xs ++ news) ∧ ((v.ownBlock = some g ∧ w.grownBy w' (some g)) ∨ (g = w.heap.size ∧ w.grownBy w' none)) := by
  obtain ⟨v', w', hr, h2, h3, _⟩ := run_append_own_wide (P := P) w base t ty e i z size bytes ht hi hz hsize hby hzs hsz v n xs hown ad m c news hl hnews h1 h63 hbytes hbase
  obtain ⟨g, cap, rfl, _, hlt⟩ := h2.form (by omega)
  refine ⟨g, cap, w', hr, h2, ?_⟩
  subst hsize
  subst hby
  have h63' : n + m ≤ 9223372036854775807 := by simp only [maxLen] at h63; omega
  have hb1 : (n + m) * i.bytes ≤ 281474976710656 := Nat.le_trans (Nat.mul_le_mul_right _ (by omega)) hbytes
  rcases hown.2 with ⟨rfl, rfl⟩ | ⟨g0, cap0, cur, rfl, hbg, hg, hnc, hcm, hcs, htake⟩
  · right
    have hr2 := run_append_nil (P := P) w t ty e i z ht hi hz ad m c news hl hnews hm (by omega) (by rw [Nat.zero_add] at hb1; exact hb1)
    rw [hr2] at hr
    injection hr with e1 e2
    injection e1 with e1
    injection e1 with e1
    injection e1 with e1
    exact ⟨e1.symm, h3⟩
  · by_cases hroom : n + m ≤ cap0
    · left
      have hfit : n * i.size + news.length ≤ cur.size := by rw [hl, hcs, ← Nat.add_mul]; exact Nat.mul_le_mul_right _ hroom
      have hr2 := run_append_room (P := P) w t ty e i ht hi g0 n cap0 cur hg ad m c news hl hnews h1 hroom hfit
      rw [hr2] at hr
      injection hr with e1 e2
      injection e1 with e1
      injection e1 with e1
      injection e1 with e1
      subst e1
      exact ⟨rfl, h3⟩
    · right
      have holds : ∀ j u, xs[j]? = some u → w.cell? ((⟨g0, 0, none⟩ : Addr).add j) = some u := hown.cells (g := g0) rfl
      have hr2 := run_append_grow (P := P) w t ty e i z ht hi hz ⟨g0, 0, none⟩ n cap0 xs hown.1 holds ad m c news hl hnews (by omega) (by omega) (growslice_fits_wide (by omega) hbytes)
      rw [hr2] at hr
      injection hr with e1 e2
      injection e1 with e1
      injection e1 with e1
      injection e1 with e1
      refine ⟨e1.symm, ?_⟩
      rw [← e2]
      exact ⟨rfl, rfl, rfl, by simp, fun k hk _ => Go.heap_alloc_old w.drew _ hk⟩
theorem wp_append_keep {o : Oper} {a : Act} {K : Act → World → Prop} {Q : Exit → Act → World → Prop} (s x : Operand) (t : TypeId)
    (ho : o.op = .call { callee := .builtin .append, args := #[s, x], argTypes := #[t, t] })
    (base : Nat) (e : TypeId) (i : TypeInfo) (z : Value) (size bytes : Nat) (ht : P.underlying t = some (.slice e)) (hi : P.info? e = some i) (hz : i.zero = some z)
    (hsize : i.size = size) (hby : i.bytes = bytes) (hzs : z.cells.size = size) (hsz : 0 < size)
    (v : Value) (n : Nat) (xs : List Value) (hs : a.eval s = v) (hown : w.ownsRow base e size v n xs)
    (ad : Addr) (m c : Nat) (news : List Value) (hx : a.eval x = .slice (some ad) m c) (hl : news.length = m * size) (hnews : ∀ j u, news[j]? = some u → w.cell? (ad.add j) = some u) (h1 : ∀ u ∈ news, u.oneCell' = true)
    (hm : 0 < m) (h63 : n + m ≤ maxLen) (hbytes : ((n + m) + (n + m) / 4 + 192) * bytes ≤ 281474976710656) (hbase : base ≤ w.heap.size)
    (h : ∀ g cap w', w'.ownsRow base e size (.slice (some ⟨g, 0, none⟩) (n + m) cap) (n + m) (xs ++ news) → ((v.ownBlock = some g ∧ w.grownBy w' (some g)) ∨ (g = w.heap.size ∧ w.grownBy w' none)) → K (a.put o.dst (.slice (some ⟨g, 0, none⟩) (n + m) cap)) w') : o.wp P a w K Q := by
  obtain ⟨g, cap, w', hr, h2, h3⟩ := run_append_keep (P := P) w t o.type base e i z size bytes ht hi hz hsize hby hzs hsz v n xs hown ad m c news hl hnews h1 hm h63 hbytes hbase
  unfold Oper.wp execOp
  simp only [ho, resolve, invoke, builtin, Sem.run_bind, Sem.run_pure, Result.andThen_ok, List.map_toArray, List.map_cons, List.map_nil, hs, hx, hr]
  exact h g cap w' h2 h3
theorem wpList_append_keep {ops : Array Oper} {rest : List Oper} {o : Oper} {a : Act} {Q : Exit → Act → World → Prop} (hgd : o.guard = none) (s x : Operand) (t : TypeId)
    (ho : o.op = .call { callee := .builtin .append, args := #[s, x], argTypes := #[t, t] })
    (base : Nat) (e : TypeId) (i : TypeInfo) (z : Value) (size bytes : Nat) (ht : P.underlying t = some (.slice e)) (hi : P.info? e = some i) (hz : i.zero = some z)
    (hsize : i.size = size) (hby : i.bytes = bytes) (hzs : z.cells.size = size) (hsz : 0 < size)
    (v : Value) (n : Nat) (xs : List Value) (hs : a.eval s = v) (hown : w.ownsRow base e size v n xs)
    (ad : Addr) (m c : Nat) (news : List Value) (hx : a.eval x = .slice (some ad) m c) (hl : news.length = m * size) (hnews : ∀ j u, news[j]? = some u → w.cell? (ad.add j) = some u) (h1 : ∀ u ∈ news, u.oneCell' = true)
    (hm : 0 < m) (h63 : n + m ≤ maxLen) (hbytes : ((n + m) + (n + m) / 4 + 192) * bytes ≤ 281474976710656) (hbase : base ≤ w.heap.size)
    (h : ∀ g cap w', w'.ownsRow base e size (.slice (some ⟨g, 0, none⟩) (n + m) cap) (n + m) (xs ++ news) → ((v.ownBlock = some g ∧ w.grownBy w' (some g)) ∨ (g = w.heap.size ∧ w.grownBy w' none)) → wpList P ops Q rest (a.put o.dst (.slice (some ⟨g, 0, none⟩) (n + m) cap)) w') : wpList P ops Q (o :: rest) a w :=
  wpList_plain hgd fun _ hK => wp_append_keep w s x t ho base e i z size bytes ht hi hz hsize hby hzs hsz v n xs hs hown ad m c news hx hl hnews h1 hm h63 hbytes hbase fun g cap w' h2 h3 => hK _ _ (h g cap w' h2 h3)
theorem step_append_keep {ops : Array Oper} {o : Oper} {a : Act} {K : Act → World → Prop} {Q : Exit → Act → World → Prop} {E : Prop} (hgd : o.guard = none) (s x : Operand) (t : TypeId)
    (ho : o.op = .call { callee := .builtin .append, args := #[s, x], argTypes := #[t, t] })
    (base : Nat) (e : TypeId) (i : TypeInfo) (z : Value) (size bytes : Nat) (ht : P.underlying t = some (.slice e)) (hi : P.info? e = some i) (hz : i.zero = some z)
    (hsize : i.size = size) (hby : i.bytes = bytes) (hzs : z.cells.size = size) (hsz : 0 < size)
    (v : Value) (n : Nat) (xs : List Value) (hs : a.eval s = v) (hown : w.ownsRow base e size v n xs)
    (ad : Addr) (m c : Nat) (news : List Value) (hx : a.eval x = .slice (some ad) m c) (hl : news.length = m * size) (hnews : ∀ j u, news[j]? = some u → w.cell? (ad.add j) = some u) (h1 : ∀ u ∈ news, u.oneCell' = true)
    (hm : 0 < m) (h63 : n + m ≤ maxLen) (hbytes : ((n + m) + (n + m) / 4 + 192) * bytes ≤ 281474976710656) (hbase : base ≤ w.heap.size)
    (h : ∀ g cap w', w'.ownsRow base e size (.slice (some ⟨g, 0, none⟩) (n + m) cap) (n + m) (xs ++ news) → ((v.ownBlock = some g ∧ w.grownBy w' (some g)) ∨ (g = w.heap.size ∧ w.grownBy w' none)) → K (a.put o.dst (.slice (some ⟨g, 0, none⟩) (n + m) cap)) w') :
    if Region.wanted o (yielded ops a.tmps) = true then Oper.wp P o a w K Q else E := by
  have hw : Region.wanted o (yielded ops a.tmps) = true := by simp [Region.wanted, hgd]
  rw [if_pos hw]
  exact wp_append_keep w s x t ho base e i z size bytes ht hi hz hsize hby hzs hsz v n xs hs hown ad m c news hx hl hnews h1 hm h63 hbytes hbase h
end
/-- all blocks that were there are as they were, but for some -/
def Same (w w' : World) (S : Nat → Prop) : Prop := w.heap.size ≤ w'.heap.size ∧ ∀ k, k < w.heap.size → ¬ S k → w'.heap[k]? = w.heap[k]?
theorem Same.below {w w' : World} (h : Below w.heap.size w w') : Same w w' (fun _ => False) := ⟨h.size, fun k hk _ => h.block k hk⟩
theorem Same.grown {w w' : World} {row : Option Nat} (h : w.grownBy w' row) : Same w w' (fun k => row = some k) := ⟨h.size, fun k hk hn => h.block k hk fun e => hn e.symm⟩
theorem Same.alloc (w : World) (o : Obj) : Same w (w.alloc o) (fun _ => False) := Same.below (below1 w o)
theorem Same.drew (w : World) : Same w w.drew (fun _ => False) := ⟨Nat.le_refl _, fun _ _ _ => rfl⟩
theorem Same.set (w : World) (p : Addr) (v : Value) : Same w (w.setCell p v) (fun k => k = p.block) := ⟨by simp [World.setCell], fun k _ hn => Below.heap_setCell _ _ _ _ (fun e => hn e)⟩
theorem Same.trans {a b c : World} {S T : Nat → Prop} (h : Same a b S) (k : Same b c T) : Same a c (fun x => S x ∨ T x) :=
  ⟨Nat.le_trans h.1 k.1, fun x hx hn => (k.2 x (Nat.lt_of_lt_of_le hx h.1) fun e => hn (.inr e)).trans (h.2 x hx fun e => hn (.inl e))⟩
theorem Same.mono {a b : World} {S T : Nat → Prop} (h : Same a b S) (hST : ∀ k, k < a.heap.size → S k → T k) : Same a b T := ⟨h.1, fun k hk hn => h.2 k hk fun e => hn (hST k hk e)⟩
theorem Same.cell {w w' : World} {S : Nat → Prop} (h : Same w w' S) {p : Addr} {v : Value} (hc : w.cell? p = some v) (hn : ¬ S p.block) : w'.cell? p = some v :=
  (World.cell?_of_block (h.2 p.block (World.block_lt_of_cell? _ _ hc) hn)).trans hc
theorem own_same {w w' : World} {S : Nat → Prop} {B : Nat} {e : TypeId} {k : Nat} {v : Value} {n : Nat} {xs : List Value} (h : w.ownsRow B e k v n xs) (hs : Same w w' S) (hn : ∀ g, v.ownBlock = some g → ¬ S g) : w'.ownsRow B e k v n xs := by
  refine ⟨h.1, ?_⟩
  rcases h.2 with h0 | ⟨g, cap, cur, hv, hb, hg, r⟩
  · exact .inl h0
  · refine .inr ⟨g, cap, cur, hv, hb, ?_, r⟩
    rw [hs.2 g (Array.getElem?_eq_some_iff.1 hg).1 (hn g (by rw [hv]; rfl))]
    exact hg
/-- a list that is full of one number: k cells an element -/
def LstAt (w : World) (k : Nat) (s : Value) (n : Int) : Prop :=
  ∃ a0 len cap, s = .slice a0 len cap ∧ len ≤ 1000000 ∧ ∀ j, j < len → ∃ g off, a0 = some ⟨g, off, none⟩ ∧ w.cell? ⟨g, off + j * k, none⟩ = some (.int .i64 n) ∧ (k = 3 → w.cell? ⟨g, off + j * k + 1, none⟩ = some (.int .i64 0) ∧ w.cell? ⟨g, off + j * k + 2, none⟩ = some (.int .i64 0))
theorem LstAt.same {w w' : World} {S : Nat → Prop} {k : Nat} {s : Value} {n : Int} (h : LstAt w k s n) (hs : Same w w' S) (hn : ∀ g, s.ownBlock = some g → ¬ S g) : LstAt w' k s n := by
  obtain ⟨a0, len, cap, rfl, hl, hc⟩ := h
  refine ⟨a0, len, cap, rfl, hl, fun j hj => ?_⟩
  obtain ⟨g, off, rfl, h1, h2⟩ := hc j hj
  have hg := hn g rfl
  exact ⟨g, off, rfl, hs.cell h1 hg, fun e => ⟨hs.cell (h2 e).1 hg, hs.cell (h2 e).2 hg⟩⟩
/-- entries as cells -/
def flatB (l : List (Value × Int)) : List Value := l.flatMap fun p => [p.1, .int .i64 p.2]
theorem flatB_len (l : List (Value × Int)) : (flatB l).length = l.length * 2 := by
  induction l with
  | nil => rfl
  | cons e l ih => unfold flatB at *; rw [List.flatMap_cons, List.length_append, ih]; simp; omega
theorem flatB_snoc (l : List (Value × Int)) (p : Value × Int) : flatB (l ++ [p]) = flatB l ++ [p.1, .int .i64 p.2] := by unfold flatB; simp
theorem flatB_at (l : List (Value × Int)) (k : Nat) (p : Value × Int) (h : l[k]? = some p) : (flatB l)[k * 2]? = some p.1 ∧ (flatB l)[k * 2 + 1]? = some (.int .i64 p.2) := by
  induction l generalizing k with
  | nil => simp at h
  | cons e l ih =>
    have e2 : flatB (e :: l) = e.1 :: .int .i64 e.2 :: flatB l := by unfold flatB; rw [List.flatMap_cons]; rfl
    rw [e2]
    cases k with
    | zero => simp at h; subst h; exact ⟨rfl, rfl⟩
    | succ k =>
      have := ih k (by simpa using h)
      rw [Nat.succ_mul]
      exact this
/-- the book: how many lists came out; the entries of edges, and of numbers -/
structure Bk (w : World) (B N : Nat) (v1 v2 : Value) (es is : List (Value × Int)) : Prop where
  row : w.heap[B]? = some (.cells #[.int .i64 (N : Int), v1, v2] 36 (0, 0))
  own1 : w.ownsRow (B + 1) 69 2 v1 es.length (flatB es)
  own2 : w.ownsRow (B + 1) 71 2 v2 is.length (flatB is)
  ne : ∀ g, v1.ownBlock = some g → v2.ownBlock ≠ some g
  l1 : ∀ p ∈ es, LstAt w 3 p.1 p.2
  l2 : ∀ p ∈ is, LstAt w 1 p.1 p.2
  bl : ∀ p ∈ es ++ is, ∀ g, p.1.ownBlock = some g → B < g ∧ g < w.heap.size ∧ v1.ownBlock ≠ some g ∧ v2.ownBlock ≠ some g
theorem Bk.same {w w' : World} {S : Nat → Prop} {B N : Nat} {v1 v2 : Value} {es is : List (Value × Int)} (h : Bk w B N v1 v2 es is) (hs : Same w w' S) (hB : ¬ S B) (h1 : ∀ g, v1.ownBlock = some g → ¬ S g) (h2 : ∀ g, v2.ownBlock = some g → ¬ S g) (hl : ∀ p ∈ es ++ is, ∀ g, p.1.ownBlock = some g → ¬ S g) : Bk w' B N v1 v2 es is :=
  ⟨by rw [hs.2 B (Array.getElem?_eq_some_iff.1 h.row).1 hB]; exact h.row, own_same h.own1 hs h1, own_same h.own2 hs h2, h.ne,
    fun p hp => (h.l1 p hp).same hs (hl p (List.mem_append.2 (.inl hp))), fun p hp => (h.l2 p hp).same hs (hl p (List.mem_append.2 (.inr hp))),
    fun p hp g hg => ⟨(h.bl p hp g hg).1, Nat.lt_of_lt_of_le (h.bl p hp g hg).2.1 hs.1, (h.bl p hp g hg).2.2⟩⟩
theorem Bk.below {w w' : World} {B N : Nat} {v1 v2 : Value} {es is : List (Value × Int)} (h : Bk w B N v1 v2 es is) (hB : Below w.heap.size w w') : Bk w' B N v1 v2 es is :=
  h.same (Same.below hB) id (fun _ _ => id) (fun _ _ => id) (fun _ _ _ _ => id)
theorem Bk.lt {w : World} {B N : Nat} {v1 v2 : Value} {es is : List (Value × Int)} (h : Bk w B N v1 v2 es is) : B < w.heap.size := (Array.getElem?_eq_some_iff.1 h.row).1
theorem row_set (w : World) (B i : Nat) (xs : Array Value) (t : TypeId) (fz : Nat × Nat) (v : Value) (h : w.heap[B]? = some (.cells xs t fz)) : (w.setCell ⟨B, i, none⟩ v).heap[B]? = some (.cells (xs.setIfInBounds i v) t fz) := by
  simp [World.setCell, Array.getElem?_modify, h]
/-- the number of the book is written -/
theorem Bk.setN {w : World} {B N : Nat} {v1 v2 : Value} {es is : List (Value × Int)} (h : Bk w B N v1 v2 es is) (M : Nat) : Bk (w.setCell ⟨B, 0, none⟩ (.int .i64 (M : Int))) B M v1 v2 es is := by
  have hs := Same.set w ⟨B, 0, none⟩ (.int .i64 (M : Int))
  have a1 : ∀ g, v1.ownBlock = some g → ¬ g = B := fun g hg e => by have := (h.own1.lt g hg).1; omega
  have a2 : ∀ g, v2.ownBlock = some g → ¬ g = B := fun g hg e => by have := (h.own2.lt g hg).1; omega
  have a3 : ∀ p ∈ es ++ is, ∀ g, p.1.ownBlock = some g → ¬ g = B := fun p hp g hg e => by have := (h.bl p hp g hg).1; omega
  exact ⟨row_set w B 0 _ _ _ _ h.row, own_same h.own1 hs a1, own_same h.own2 hs a2, h.ne,
    fun p hp => (h.l1 p hp).same hs (a3 p (List.mem_append.2 (.inl hp))), fun p hp => (h.l2 p hp).same hs (a3 p (List.mem_append.2 (.inr hp))),
    fun p hp g hg => ⟨(h.bl p hp g hg).1, Nat.lt_of_lt_of_le (h.bl p hp g hg).2.1 hs.1, (h.bl p hp g hg).2.2⟩⟩
/-- an entry of edges is put behind: w2 is the world behind the append -/
theorem Bk.push1 {w w2 : World} {B N : Nat} {v1 v2 : Value} {es is : List (Value × Int)} (h : Bk w B N v1 v2 es is) (s : Value) (x : Int) (hx : LstAt w 3 s x) (hsb : ∀ g, s.ownBlock = some g → B < g ∧ g < w.heap.size ∧ v1.ownBlock ≠ some g ∧ v2.ownBlock ≠ some g)
    (g cap : Nat) (hown : w2.ownsRow (B + 1) 69 2 (.slice (some ⟨g, 0, none⟩) (es.length + 1) cap) (es.length + 1) (flatB es ++ [s, .int .i64 x])) (hg : (v1.ownBlock = some g ∧ w.grownBy w2 (some g)) ∨ (g = w.heap.size ∧ w.grownBy w2 none)) :
    Bk (w2.setCell ⟨B, 1, none⟩ (.slice (some ⟨g, 0, none⟩) (es.length + 1) cap)) B N (.slice (some ⟨g, 0, none⟩) (es.length + 1) cap) v2 (es ++ [(s, x)]) is ∧ Same w (w2.setCell ⟨B, 1, none⟩ (.slice (some ⟨g, 0, none⟩) (es.length + 1) cap)) (fun k => k = B ∨ v1.ownBlock = some k) := by
  have hs1 : Same w w2 (fun k => v1.ownBlock = some k) := by
    rcases hg with ⟨h1, h2⟩ | ⟨_, h2⟩
    · exact (Same.grown h2).mono fun k _ e => by rw [h1]; exact e
    · exact (Same.grown h2).mono fun k _ e => by simp at e
  have hs2 := Same.set w2 ⟨B, 1, none⟩ (.slice (some ⟨g, 0, none⟩) (es.length + 1) cap)
  have hs := (hs1.trans hs2).mono (T := fun k => k = B ∨ v1.ownBlock = some k) fun k _ e => e.elim .inr .inl
  have hlt := h.lt
  have hgB := (hown.lt g rfl)
  have a1 : ∀ k, v1.ownBlock = some k → k ≠ B := fun k hk e => by have := (h.own1.lt k hk).1; omega
  have a2 : ∀ k, v2.ownBlock = some k → ¬ (k = B ∨ v1.ownBlock = some k) := fun k hk e => by
    rcases e with e | e
    · have := (h.own2.lt k hk).1; omega
    · exact h.ne k e hk
  have hne2 : ∀ k, k < w.heap.size → v1.ownBlock ≠ some k → g ≠ k := fun k hk hn e => by
    subst e
    rcases hg with ⟨h1, _⟩ | ⟨h1, _⟩
    · exact hn h1
    · omega
  have lst : ∀ p ∈ es ++ [(s, x)] ++ is, ∀ k, p.1.ownBlock = some k → B < k ∧ k < w.heap.size ∧ v1.ownBlock ≠ some k ∧ v2.ownBlock ≠ some k := fun p hp k hk => by
    rcases List.mem_append.1 hp with hp | hp
    · rcases List.mem_append.1 hp with hp | hp
      · exact h.bl p (List.mem_append.2 (.inl hp)) k hk
      · simp only [List.mem_singleton] at hp
        subst hp
        exact hsb k hk
    · exact h.bl p (List.mem_append.2 (.inr hp)) k hk
  have keep : ∀ p ∈ es ++ [(s, x)] ++ is, ∀ k, p.1.ownBlock = some k → ¬ (k = B ∨ v1.ownBlock = some k) := fun p hp k hk e => by
    have := lst p hp k hk
    rcases e with e | e
    · omega
    · exact this.2.2.1 e
  refine ⟨⟨?_, ?_, own_same h.own2 hs a2, fun k hk hk2 => ?_, fun p hp => ?_, fun p hp => ?_, fun p hp k hk => ?_⟩, hs⟩
  · have e := hs1.2 B hlt fun e => a1 B e rfl
    rw [h.row] at e
    exact row_set w2 B 1 _ _ _ _ e
  · rw [List.length_append, flatB_snoc]
    exact own_same hown hs2 fun k hk e => by
      have e2 : g = k := by simpa [Value.ownBlock] using hk
      simp only at e
      omega
  · have e2 : g = k := by simpa [Value.ownBlock] using hk
    subst e2
    have hv2 := h.own2.lt g hk2
    rcases hg with ⟨h1, _⟩ | ⟨h1, _⟩
    · exact h.ne g h1 hk2
    · omega
  · have hm : p ∈ es ++ [(s, x)] ++ is := List.mem_append.2 (.inl hp)
    rcases List.mem_append.1 hp with hp2 | hp2
    · exact (h.l1 p hp2).same hs (keep p hm)
    · simp only [List.mem_singleton] at hp2
      subst hp2
      exact hx.same hs (keep _ hm)
  · exact (h.l2 p hp).same hs (keep p (List.mem_append.2 (.inr hp)))
  · have := lst p hp k hk
    refine ⟨this.1, Nat.lt_of_lt_of_le this.2.1 hs.1, fun e => ?_, this.2.2.2⟩
    have e2 : g = k := by simpa [Value.ownBlock] using e
    exact hne2 k this.2.1 this.2.2.1 e2
end Go.Proofs.YtphjbbbnbmafnaaGreatDoor.G

namespace Go.Proofs.YtphjbbbnbmafnaaGreatDoor.G
open Go.RowKit

attribute [local go_sem ↓] Go.wp_at_zero Go.wp_at_succ
theorem flat_rep (len : Nat) (x : Int) : flat (List.replicate (len + 1) (x, 0, 0)) = flat (List.replicate len (x, 0, 0)) ++ [.int .i64 x, .int .i64 0, .int .i64 0] := by
  rw [List.replicate_succ', flat_snoc]
/-- a row full of one number, and whatever is a part of it -/
theorem lst_part {w : World} {H g len l c : Nat} {sg : Value} {x : Int} (h : w.ownsRow H 38 3 sg len (flat (List.replicate len (x, 0, 0)))) (hg : sg.ownBlock = some g) (hl : l ≤ len) (hs : len ≤ 1000000) : LstAt w 3 (.slice (some ⟨g, 0, none⟩) l c) x := by
  refine ⟨_, l, c, rfl, by omega, fun j hj => ⟨g, 0, rfl, ?_⟩⟩
  rcases h.2 with ⟨rfl, _⟩ | ⟨g0, cap, cur, rfl, hb, hgg, hn, hc, hz, ht⟩
  · simp [Value.ownBlock] at hg
  · obtain rfl : g0 = g := by simpa [Value.ownBlock] using hg
    have hr : RowE w g0 cap (List.replicate len (x, 0, 0)) := ⟨cur, hgg, hz, by rw [List.length_replicate]; exact ht⟩
    obtain ⟨h0, h1, h2⟩ := hr.cells (j := j) (e := (x, 0, 0)) (by rw [List.getElem?_replicate, if_pos (by omega)])
    rw [Nat.zero_add]
    exact ⟨h0, fun _ => ⟨h1, h2⟩⟩
theorem lst_self {w : World} {H len : Nat} {sg : Value} {x : Int} (h : w.ownsRow H 38 3 sg len (flat (List.replicate len (x, 0, 0)))) (hs : len ≤ 1000000) : LstAt w 3 sg x := by
  rcases h.2 with ⟨rfl, rfl⟩ | ⟨g0, cap, cur, rfl, _⟩
  · exact ⟨none, 0, 0, rfl, by omega, fun j hj => by omega⟩
  · exact lst_part h rfl (Nat.le_refl _) hs
/-- the book, and the list at hand -/
structure Young (w : World) (B N : Nat) (v1 v2 : Value) (es is : List (Value × Int)) (H : Nat) (sg : Value) (len : Nat) (x : Int) : Prop where
  bk : Bk w B N v1 v2 es is
  own : w.ownsRow H 38 3 sg len (flat (List.replicate len (x, 0, 0)))
  hH : B < H
  small : len ≤ 1000000
  far : ∀ g, sg.ownBlock = some g → v1.ownBlock ≠ some g ∧ v2.ownBlock ≠ some g
  same : ∀ p ∈ es ++ is, ∀ g, p.1.ownBlock = some g → sg.ownBlock = some g → p ∈ es ∧ p ∉ is ∧ p.2 = x ∧ ∃ l c, p.1 = .slice (some ⟨g, 0, none⟩) l c ∧ l ≤ len
theorem Young.below {w w' : World} {B N : Nat} {v1 v2 : Value} {es is : List (Value × Int)} {H : Nat} {sg : Value} {len : Nat} {x : Int} (h : Young w B N v1 v2 es is H sg len x) (hB : Below w.heap.size w w') : Young w' B N v1 v2 es is H sg len x :=
  ⟨h.bk.below hB, own_keep h.own hB, h.hH, h.small, h.far, h.same⟩
theorem Young.grow {w w2 : World} {B N : Nat} {v1 v2 : Value} {es is : List (Value × Int)} {H : Nat} {sg : Value} {len : Nat} {x : Int} (h : Young w B N v1 v2 es is H sg len x) (hlen1 : len + 1 ≤ 1000000) (g cap : Nat)
    (hown : w2.ownsRow H 38 3 (.slice (some ⟨g, 0, none⟩) (len + 1) cap) (len + 1) (flat (List.replicate len (x, 0, 0)) ++ [.int .i64 x, .int .i64 0, .int .i64 0])) (hg : (sg.ownBlock = some g ∧ w.grownBy w2 (some g)) ∨ (g = w.heap.size ∧ w.grownBy w2 none)) :
    Young w2 B N v1 v2 es is H (.slice (some ⟨g, 0, none⟩) (len + 1) cap) (len + 1) x ∧ Same w w2 (fun k => H ≤ k) := by
  rw [← flat_rep] at hown
  have hgH := hown.lt g rfl
  have hB := h.hH
  have hlt := h.bk.lt
  rcases hg with ⟨h1, h2⟩ | ⟨h1, h2⟩
  · have hs := Same.grown h2
    have hf := h.far g h1
    have e1 : ∀ k, v1.ownBlock = some k → ¬ some g = some k := fun k hk e => hf.1 (by rw [hk, e])
    have e2 : ∀ k, v2.ownBlock = some k → ¬ some g = some k := fun k hk e => hf.2 (by rw [hk, e])
    have hlst : ∀ p ∈ es, LstAt w2 3 p.1 p.2 := fun p hp => by
      by_cases hpg : p.1.ownBlock = some g
      · obtain ⟨_, _, hx, l, c, hp1, hl⟩ := h.same p (List.mem_append.2 (.inl hp)) g hpg h1
        rw [hp1, hx]
        exact lst_part hown rfl (by omega) hlen1
      · exact (h.bk.l1 p hp).same hs fun k hk e => hpg (by rw [hk, e])
    refine ⟨⟨⟨?_, own_same h.bk.own1 hs e1, own_same h.bk.own2 hs e2, h.bk.ne, hlst, fun p hp => ?_, fun p hp k hk => ?_⟩, hown, h.hH, hlen1, fun k hk => ?_, fun p hp k hk hk2 => ?_⟩, hs.mono fun k _ e => by injection e with e; omega⟩
    · rw [hs.2 B hlt fun e => by injection e with e; omega]; exact h.bk.row
    · exact (h.bk.l2 p hp).same hs fun k hk e => (h.same p (List.mem_append.2 (.inr hp)) k hk (by rw [h1, e])).2.1 hp
    · have := h.bk.bl p hp k hk
      exact ⟨this.1, Nat.lt_of_lt_of_le this.2.1 hs.1, this.2.2⟩
    · have e : g = k := by simpa [Value.ownBlock] using hk
      subst e
      exact hf
    · have e : g = k := by simpa [Value.ownBlock] using hk2
      subst e
      obtain ⟨a, b, c, l, d, e1, e2⟩ := h.same p hp g hk h1
      exact ⟨a, b, c, l, d, e1, by omega⟩
  · have hs : Same w w2 (fun _ => False) := (Same.grown h2).mono fun k _ e => by simp at e
    have hbk : Bk w2 B N v1 v2 es is := h.bk.same hs id (fun _ _ => id) (fun _ _ => id) (fun _ _ _ _ => id)
    refine ⟨⟨hbk, hown, h.hH, hlen1, fun k hk => ?_, fun p hp k hk hk2 => ?_⟩, hs.mono fun _ _ e => e.elim⟩
    · have e : g = k := by simpa [Value.ownBlock] using hk
      refine ⟨fun e2 => ?_, fun e2 => ?_⟩
      · have := (h.bk.own1.lt k e2).2; omega
      · have := (h.bk.own2.lt k e2).2; omega
    · have e : g = k := by simpa [Value.ownBlock] using hk2
      have := (h.bk.bl p hp k hk).2.1
      omega
theorem Young.push {w w2 : World} {B N : Nat} {v1 v2 : Value} {es is : List (Value × Int)} {H : Nat} {sg : Value} {len : Nat} {x : Int} (h : Young w B N v1 v2 es is H sg len x) (g cap : Nat)
    (hown : w2.ownsRow (B + 1) 69 2 (.slice (some ⟨g, 0, none⟩) (es.length + 1) cap) (es.length + 1) (flatB es ++ [sg, .int .i64 x])) (hg : (v1.ownBlock = some g ∧ w.grownBy w2 (some g)) ∨ (g = w.heap.size ∧ w.grownBy w2 none)) :
    Young (w2.setCell ⟨B, 1, none⟩ (.slice (some ⟨g, 0, none⟩) (es.length + 1) cap)) B N (.slice (some ⟨g, 0, none⟩) (es.length + 1) cap) v2 (es ++ [(sg, x)]) is H sg len x ∧ Same w (w2.setCell ⟨B, 1, none⟩ (.slice (some ⟨g, 0, none⟩) (es.length + 1) cap)) (fun k => k = B ∨ v1.ownBlock = some k) := by
  have hB := h.hH
  have hsg : ∀ k, sg.ownBlock = some k → B < k ∧ k < w.heap.size ∧ v1.ownBlock ≠ some k ∧ v2.ownBlock ≠ some k := fun k hk => by
    have := h.own.lt k hk
    exact ⟨by omega, this.2, h.far k hk⟩
  obtain ⟨hb, hs⟩ := h.bk.push1 sg x (lst_self h.own h.small) hsg g cap hown hg
  refine ⟨⟨hb, own_same h.own hs fun k hk e => ?_, h.hH, h.small, fun k hk => ?_, fun p hp k hk hk2 => ?_⟩, hs⟩
  · have := hsg k hk
    rcases e with e | e
    · omega
    · exact this.2.2.1 e
  · have := hsg k hk
    refine ⟨fun e => ?_, this.2.2.2⟩
    have e2 : g = k := by simpa [Value.ownBlock] using e
    subst e2
    rcases hg with ⟨h1, _⟩ | ⟨h1, _⟩
    · exact this.2.2.1 h1
    · omega
  · have old : p ∈ es ++ is → _ := fun hm => h.same p hm k hk hk2
    rcases List.mem_append.1 hp with hp | hp
    · rcases List.mem_append.1 hp with hp | hp
      · obtain ⟨a, b⟩ := old (List.mem_append.2 (.inl hp))
        exact ⟨List.mem_append.2 (.inl a), b⟩
      · simp only [List.mem_singleton] at hp
        subst hp
        refine ⟨by simp, fun hi => (h.same _ (List.mem_append.2 (.inr hi)) k hk hk2).2.1 hi, rfl, ?_⟩
        rcases h.own.2 with ⟨e, _⟩ | ⟨g0, cap0, cur, e, _⟩
        · rw [e] at hk; simp [Value.ownBlock] at hk
        · rw [e] at hk
          obtain rfl : g0 = k := by simpa [Value.ownBlock] using hk
          exact ⟨len, cap0, e, Nat.le_refl _⟩
    · obtain ⟨a, b⟩ := old (List.mem_append.2 (.inr hp))
      exact ⟨List.mem_append.2 (.inl a), b⟩
theorem rep_set (A : List E3) (i : Nat) (x : E3) (hi : i < A.length) : (List.replicate i x ++ A.drop i).set i x = List.replicate (i + 1) x ++ A.drop (i + 1) := by
  rw [List.set_append_right _ _ (by simp), List.length_replicate, Nat.sub_self, List.replicate_succ', List.append_assoc]
  congr 1
  rw [List.drop_eq_getElem_cons hi]
  rfl
/-- the list at hand is full -/
theorem young_start {w wr : World} {B N : Nat} {v1 v2 : Value} {es is : List (Value × Int)} {H : Nat} {v : Value} {len : Nat} {x : Int} (hb : Bk w B N v1 v2 es is) (hF : B < H ∧ (∀ g, v1.ownBlock = some g → g < H) ∧ (∀ g, v2.ownBlock = some g → g < H) ∧ (∀ p ∈ es ++ is, ∀ g, p.1.ownBlock = some g → g < H))
    (hown : wr.ownsRow H 38 3 v len (flat (List.replicate len (x, 0, 0)))) (hg : w.grownBy wr v.ownBlock) (hl : len ≤ 1000000) : Young wr B N v1 v2 es is H v len x := by
  have hs := Same.grown hg
  have hk : ∀ k, v.ownBlock = some k → H ≤ k := fun k hk => (hown.lt k hk).1
  have n1 : ∀ k, k < H → ¬ v.ownBlock = some k := fun k h1 h2 => by have := hk k h2; omega
  exact ⟨hb.same hs (n1 B hF.1) (fun g h => n1 g (hF.2.1 g h)) (fun g h => n1 g (hF.2.2.1 g h)) (fun p hp g h => n1 g (hF.2.2.2 p hp g h)), hown, hF.1, hl,
    fun g h => ⟨fun e => n1 g (hF.2.1 g e) h, fun e => n1 g (hF.2.2.1 g e) h⟩, fun p hp g h h2 => absurd h2 (n1 g (hF.2.2.2 p hp g h))⟩
theorem Bk.row_after {w w2 : World} {B N g : Nat} {v1 v2 : Value} {es is : List (Value × Int)} (h : Bk w B N v1 v2 es is) (hg : (v1.ownBlock = some g ∧ w.grownBy w2 (some g)) ∨ (g = w.heap.size ∧ w.grownBy w2 none)) : w2.heap[B]? = some (.cells #[.int .i64 (N : Int), v1, v2] 36 (0, 0)) := by
  rcases hg with ⟨h1, h2⟩ | ⟨_, h2⟩
  · rw [h2.block B h.lt (fun e => by injection e with e; have := (h.own1.lt g h1).1; omega)]; exact h.row
  · rw [h2.block B h.lt (fun e => by simp at e)]; exact h.row
theorem cell_alloc_old {W : World} {o : Obj} {k : Nat} {y : Obj} (h : W.heap[k]? = some y) : (W.alloc o).drew.heap[k]? = some y := by
  have := (below1 W o).block k (Array.getElem?_eq_some_iff.1 h).1
  exact this.trans h
theorem heap_after {wa w2 : World} {v : Value} {g X : Nat} {y : Obj} (hg : (v.ownBlock = some g ∧ wa.grownBy w2 (some g)) ∨ (g = wa.heap.size ∧ wa.grownBy w2 none)) (hX : wa.heap[X]? = some y) (hne : v.ownBlock ≠ some X) : w2.heap[X]? = some y ∧ g ≠ X := by
  have hlt := (Array.getElem?_eq_some_iff.1 hX).1
  rcases hg with ⟨h1, h2⟩ | ⟨h1, h2⟩
  · have hn : g ≠ X := fun e => hne (by rw [h1, e])
    exact ⟨(h2.block X hlt fun e => by injection e with e; exact hn e.symm).trans hX, hn⟩
  · exact ⟨(h2.block X hlt fun e => by simp at e).trans hX, by omega⟩
theorem heap_set_other (W : World) (B i X : Nat) (v : Value) {y : Obj} (h : W.heap[X]? = some y) (hne : X ≠ B) : (W.setCell ⟨B, i, none⟩ v).heap[X]? = some y := by
  rw [(Same.set W ⟨B, i, none⟩ v).2 X (Array.getElem?_eq_some_iff.1 h).1 hne]; exact h
theorem below_push {w wa w2 : World} {B N g : Nat} {v1 v2 : Value} {es is : List (Value × Int)} (hb : Bk wa B N v1 v2 es is) (hB : Below B w wa) (hg : (v1.ownBlock = some g ∧ wa.grownBy w2 (some g)) ∨ (g = wa.heap.size ∧ wa.grownBy w2 none)) (u : Value) : Below B w (w2.setCell ⟨B, 1, none⟩ u) := by
  have hlt := Nat.le_of_lt hb.lt
  rcases hg with ⟨h1, h2⟩ | ⟨_, h2⟩
  · exact (hB.grown h2 hlt (fun k e => by injection e with e; have := (hb.own1.lt g h1).1; omega)).setCell (Nat.le_refl _) u
  · exact (hB.grown h2 hlt (fun k e => by simp at e)).setCell (Nat.le_refl _) u
theorem below_grow {w wa w2 : World} {B N g : Nat} {v1 v2 : Value} {es is : List (Value × Int)} {H len : Nat} {sg : Value} {x : Int} (hy : Young wa B N v1 v2 es is H sg len x) (hB : Below B w wa) (hg : (sg.ownBlock = some g ∧ wa.grownBy w2 (some g)) ∨ (g = wa.heap.size ∧ wa.grownBy w2 none)) : Below B w w2 := by
  have hlt := Nat.le_of_lt hy.bk.lt
  rcases hg with ⟨h1, h2⟩ | ⟨_, h2⟩
  · exact hB.grown h2 hlt (fun k e => by injection e with e; have := (hy.own.lt g h1).1; have := hy.hH; omega)
  · exact hB.grown h2 hlt (fun k e => by simp at e)
theorem Tryz.infoB1 : (Tryz.prog.info? 69).map (fun i => (i.zero, i.size, i.bytes)) = some (some (.agg #[.slice none 0 0, .int .i64 0]), 2, 32) := by kernel_rfl
theorem src2 (w : World) (a b : Value) (t : TypeId) (j : Nat) (u : Value) (hj : [a, b][j]? = some u) : (w.alloc (.cells #[a, b] t)).cell? ((⟨w.heap.size, 0, none⟩ : Addr).add j) = some u := by
  match j, hj with
  | 0, hj => simp at hj; subst hj; simp [Addr.add]
  | 1, hj => simp at hj; subst hj; simp [Addr.add]
  | j + 2, hj => simp at hj
set_option maxHeartbeats 8000000 in
set_option maxRecDepth 100000 in
theorem takeE_any {w : World} {B N : Nat} {v1 v2 : Value} {es is : List (Value × Int)} (hb : Bk w B N v1 v2 es is) (H : Nat) (v vm : Value) (A : List E3) (hv : w.ownsRow H 38 3 v A.length (flat A)) (hH : B < H) (hHw : H ≤ w.heap.size) (h1 : ∀ g, v1.ownBlock = some g → g < H) (h2 : ∀ g, v2.ownBlock = some g → g < H) (h3 : ∀ p ∈ es ++ is, ∀ g, p.1.ownBlock = some g → g < H) (hm : EdgesAt w vm A) (hA : A.length ≤ 20000) (hN : N ≤ 2000000000000) (hn : es.length ≤ 5500000000000) :
    Calls Tryz.prog 14 #[.pointer (some ⟨B, 0, none⟩), v, vm] w fun e w' => e = .returned (.bool true) ∧ (∃ v1' es', Bk w' B (N + 1) v1' v2 es' is ∧ es'.length = es.length + 4) ∧ Below B w w' := by
  have hva := own_edges hv
  have HV : Hid _ := hv
  have HBk : Hid _ := hb
  obtain ⟨a0, cap0, rfl, hed⟩ := hva
  obtain ⟨am, capm, rfl, hem⟩ := hm
  have HE : Hid _ := hed
  have HM : Hid _ := hem
  have HF : Hid (B < H ∧ (∀ g, v1.ownBlock = some g → g < H) ∧ (∀ g, v2.ownBlock = some g → g < H) ∧ (∀ p ∈ es ++ is, ∀ g, p.1.ownBlock = some g → g < H)) := ⟨hH, h1, h2, h3⟩
  clear hv hb hed hem h1 h2 h3 hH
  go_enter Tryz.func14, Tryz.ntmps14
  go_wp2
  go_loopw [7, 8] (fun so si wr => ∃ i q : Nat, i ≤ A.length ∧ so = .bool true ∧ si = .int .i64 (i : Int) ∧ wr = w.drewN q) (fun _ si _ => A.length - (intOf si).toNat)
  case atStart => exact ⟨0, 0, Nat.zero_le _, rfl, rfl, rfl⟩
  case round =>
    obtain ⟨i, q, hi, rfl, rfl, rfl⟩ := hrel
    by_cases hlt : i < A.length
    · obtain ⟨x, hx⟩ : ∃ x, A[i]? = some x := ⟨_, List.getElem?_eq_getElem hlt⟩
      obtain ⟨g, off, rfl, c0, c1, c2⟩ := HE.out i x hx
      obtain ⟨g', off', rfl, d0, d1, d2⟩ := HM.out i x hx
      obtain ⟨x1, x2, x3⟩ := x
      simp only at c0 c1 c2 d0 d1 d2
      have hiI : (i : Int) < (A.length : Int) := by omega
      have gE := guardE
      have hEq := eqlE x1 x2 x3 x1 x2 x3 true (decide_eq_true rfl)
      clear hx
      go_wp2
      go_quiet (fail)
      go_wp2
      go_roundw
      case rel => exact ⟨i + 1, _, by omega, rfl, by go_num, rfl⟩
      case measure => simp [intOf]; omega
    · obtain rfl : i = A.length := by omega
      have hBq : Below w.heap.size w (w.drewN q) := below_drewN (Below.refl _ _) q
      have HBk1 : Hid _ := HBk.out.below hBq
      have HV1 : Hid _ := own_keep HV.out hBq
      have HBq : Hid _ := hBq
      clear hBq
      obtain ⟨W1, hW1⟩ : ∃ W1, W1 = w.drewN q := ⟨_, rfl⟩
      rw [← hW1] at HBk1 HV1 HBq
      rw [← hW1]
      clear hW1
      have hrow := HBk1.out.row
      have c0 : W1.cell? ⟨B, 0, none⟩ = some (.int .i64 (N : Int)) := by rw [cell_of_row _ _ 0 _ _ _ hrow]; rfl
      have f0 := frozen_of_row W1 B 0 _ _ hrow
      clear hrow
      go_wp2
      obtain ⟨x, hx⟩ : ∃ x : Int, x = -((N : Int) + 1) := ⟨_, rfl⟩
      rw [← hx]
      obtain ⟨W3, hW3⟩ : ∃ W3, W3 = (W1.setCell ⟨B, 0, none⟩ (.int .i64 ((N : Int) + 1))).alloc (.cells #[.int .i64 x, .int .i64 0, .int .i64 0] 38) := ⟨_, rfl⟩
      rw [← hW3]
      have hb3 : Bk W3 B (N + 1) v1 v2 es is := by rw [hW3]; exact (HBk1.out.setN (N + 1)).below (below1 _ _)
      have hs3 : Same W1 W3 (fun k => k = B) := by rw [hW3]; exact ((Same.set W1 ⟨B, 0, none⟩ (.int .i64 ((N : Int) + 1))).trans (Same.alloc _ _)).mono fun k _ e => e.elim id False.elim
      have hv3 : W3.ownsRow H 38 3 (.slice a0 A.length cap0) A.length (flat A) := own_same HV1.out hs3 fun g hg e => by
        have := (World.ownsRow.lt HV1.out g hg).1
        have := HF.out.1
        omega
      have hx3 : W3.heap[W1.heap.size]? = some (.cells #[.int .i64 x, .int .i64 0, .int .i64 0] 38 (0, 0)) := by
        rw [hW3]
        have := heap_alloc_new (W1.setCell ⟨B, 0, none⟩ (.int .i64 ((N : Int) + 1))) (.cells #[.int .i64 x, .int .i64 0, .int .i64 0] 38)
        rwa [show (W1.setCell ⟨B, 0, none⟩ (.int .i64 ((N : Int) + 1))).heap.size = W1.heap.size by simp [World.setCell]] at this
      have hBl3 : Below B w W3 := by
        rw [hW3]
        have e1 := (HBq.out.mono (Nat.le_of_lt HBk.out.lt)).setCell (p := ⟨B, 0, none⟩) (Nat.le_refl _) (.int .i64 ((N : Int) + 1))
        exact e1.alloc (by have := HBk1.out.lt; simp [World.setCell]; omega) _
      have hgW : ∀ g, (Value.slice a0 A.length cap0).ownBlock = some g → g < W1.heap.size := fun g hg => (World.ownsRow.lt HV1.out g hg).2
      have HGW : Hid _ := hgW
      have HB3 : Hid _ := hb3
      have HV3 : Hid _ := hv3
      have HX3 : Hid _ := hx3
      have HBl3 : Hid _ := hBl3
      have HXe : Hid _ := hx
      have hxb : -9223372036854775807 ≤ x ∧ x ≤ 0 := by omega
      clear hb3 hs3 hv3 hx3 hBl3 hgW hx hW3 c0 f0 hi hlt
      go_loopw [10] (fun si wr => ∃ i : Nat, i ≤ A.length ∧ si = .int .i64 (i : Int) ∧ Hid (wr.ownsRow H 38 3 (.slice a0 A.length cap0) A.length (flat (List.replicate i (x, 0, 0) ++ A.drop i)) ∧ W3.grownBy wr (Value.slice a0 A.length cap0).ownBlock)) (fun si _ => A.length - (intOf si).toNat)
      case atStart => exact ⟨0, Nat.zero_le _, rfl, ⟨HV3.out, ⟨rfl, rfl, rfl, Nat.le_refl _, fun _ _ _ => rfl⟩⟩⟩
      case round =>
        obtain ⟨i, hi, rfl, HI⟩ := hrel
        by_cases hlt : i < A.length
        · obtain ⟨hown, hgb⟩ := HI.out
          rcases hown.2 with ⟨_, h0⟩ | ⟨g, cap, cur, hvv, hHg, hgg, hnc, hcm, hcs, htk⟩
          · omega
          injection hvv with e1 _ e2
          subst e1 e2
          have hL : (List.replicate i (x, (0 : Int), (0 : Int)) ++ A.drop i).length = A.length := by simp; omega
          have hr : RowE wr g cap0 (List.replicate i (x, 0, 0) ++ A.drop i) := ⟨cur, hgg, hcs, by rw [hL]; exact htk⟩
          obtain ⟨y, hy⟩ : ∃ y, (List.replicate i (x, (0 : Int), (0 : Int)) ++ A.drop i)[i]? = some y := ⟨_, List.getElem?_eq_getElem (by omega)⟩
          obtain ⟨d0, d1, d2⟩ := hr.cells hy
          have k0 := hr.frozen (i * 3)
          have k1 := hr.frozen (i * 3 + 1)
          have k2 := hr.frozen (i * 3 + 2)
          have hbx : wr.heap[W1.heap.size]? = some (.cells #[.int .i64 x, .int .i64 0, .int .i64 0] 38 (0, 0)) := by
            rw [hgb.block _ (Array.getElem?_eq_some_iff.1 HX3.out).1 (fun e => by have := HGW.out _ e.symm; omega)]
            exact HX3.out
          have b0 : wr.cell? ⟨W1.heap.size, 0, none⟩ = some (.int .i64 x) := by rw [cell_of_row _ _ 0 _ _ _ hbx]; rfl
          have b1 : wr.cell? ⟨W1.heap.size, 1, none⟩ = some (.int .i64 0) := by rw [cell_of_row _ _ 1 _ _ _ hbx]; rfl
          have b2 : wr.cell? ⟨W1.heap.size, 2, none⟩ = some (.int .i64 0) := by rw [cell_of_row _ _ 2 _ _ _ hbx]; rfl
          have hput := hr.put (k := i) (x, 0, 0) (by omega)
          rw [rep_set A i (x, 0, 0) hlt] at hput
          have HN : Hid ((((wr.setCell ⟨g, i * 3, none⟩ (.int .i64 x)).setCell ⟨g, i * 3 + 1, none⟩ (.int .i64 0)).setCell ⟨g, i * 3 + 2, none⟩ (.int .i64 0)).ownsRow H 38 3 (.slice (some ⟨g, 0, none⟩) A.length cap0) A.length (flat (List.replicate (i + 1) (x, 0, 0) ++ A.drop (i + 1))) ∧ W3.grownBy (((wr.setCell ⟨g, i * 3, none⟩ (.int .i64 x)).setCell ⟨g, i * 3 + 1, none⟩ (.int .i64 0)).setCell ⟨g, i * 3 + 2, none⟩ (.int .i64 0)) (some g)) := (by
            obtain ⟨cur2, q1, q2, q3⟩ := hput
            have hL2 : (List.replicate (i + 1) (x, (0 : Int), (0 : Int)) ++ A.drop (i + 1)).length = A.length := by simp; omega
            rw [hL2] at q3
            exact ⟨⟨by rw [flat_len, hL2], .inr ⟨g, cap0, cur2, rfl, hHg, q1, hnc, hcm, q2, q3⟩⟩, gb_trans (gb_trans (gb_trans hgb (gb_set _ _ _ _)) (gb_set _ _ _ _)) (gb_set _ _ _ _)⟩ : _ ∧ _)
          have hiI : (i : Int) < (A.length : Int) := by omega
          clear hown hgb hgg hput hr hbx hy HI htk hL
          go_wp2
          go_roundw
          case rel => exact ⟨i + 1, by omega, by go_num, HN.out⟩
          case measure => simp [intOf]; omega
        · obtain rfl : i = A.length := by omega
          have HY : Hid (Young wr B (N + 1) v1 v2 es is H (.slice a0 A.length cap0) A.length x) := (by
            have hown := HI.out.1
            rw [List.drop_length, List.append_nil] at hown
            exact young_start HB3.out HF.out hown HI.out.2 (by omega) : Young _ _ _ _ _ _ _ _ _ _ _)
          have hbx : wr.heap[W1.heap.size]? = some (.cells #[.int .i64 x, .int .i64 0, .int .i64 0] 38 (0, 0)) := by
            rw [HI.out.2.block _ (Array.getElem?_eq_some_iff.1 HX3.out).1 (fun e => by have := HGW.out _ e.symm; omega)]
            exact HX3.out
          have HBx : Hid _ := hbx
          have HBl : Hid (Below B w wr) := (HBl3.out.grown HI.out.2 (Nat.le_trans (Nat.le_of_lt HB3.out.lt) (Nat.le_refl _)) (fun r hr => by
            have := (World.ownsRow.lt HI.out.1 r hr).1
            have := HF.out.1
            omega) : Below _ _ _)
          clear hbx HI
          obtain rfl := HXe.out
          have hrow := HY.out.bk.row
          have c0 : wr.cell? ⟨B, 0, none⟩ = some (.int .i64 ((N : Int) + 1)) := by rw [cell_of_row _ _ 0 _ _ _ hrow]; rfl
          have c1 : wr.cell? ⟨B, 1, none⟩ = some v1 := by rw [cell_of_row _ _ 1 _ _ _ hrow]; rfl
          have f1 := frozen_of_row wr B 1 _ _ hrow
          clear hrow
          have c1a : (wr.alloc (.cells #[.slice a0 A.length cap0, .int .i64 (-((N : Int) + 1))] 69)).cell? ⟨B, 1, none⟩ = some v1 := cell_kept (below1 _ _) _ _ c1
          obtain ⟨i1, hi1, hz0, hz1, hz2⟩ := info_parts Tryz.infoB1
          have hn1 : es.length + 1 ≤ 6000000000000 := by omega
          have hwr : IntKind.i64.wrap (-((N : Int) + 1)) = -((N : Int) + 1) := by rw [IntKind.wrap_i64]; omega
          go_upto_region 12 with fail
          go_cut [9] (fun s9 wx => s9 = .pointer (some ⟨W1.heap.size, 0, none⟩) ∧ ∃ v1' es', Hid (Young wx B (N + 1) v1' v2 es' is H (.slice a0 A.length cap0) A.length (-((N : Int) + 1)) ∧ es'.length = es.length + 1 ∧ wx.heap[W1.heap.size]? = some (.cells #[.int .i64 (-((N : Int) + 1)), .int .i64 0, .int .i64 0] 38 (0, 0)) ∧ Below B w wx ∧ v1'.ownBlock ≠ some W1.heap.size))
          case first =>
            go_region_law (refine step_append_keep _ (by rfl) _ _ _ (by rfl) (B + 1) 69 i1 _ 2 32 Tryz.underlying33 hi1 hz0 hz1 hz2 rfl (by omega) v1 es.length (flatB es) (by rfl) (World.ownsRow.drew (World.ownsRow.alloc HY.out.bk.own1 _)) ⟨wr.heap.size, 0, none⟩ 1 1 [.slice a0 A.length cap0, .int .i64 (-((N : Int) + 1))] (by rfl) (by rfl) (World.news_of_block (cs := #[.slice a0 A.length cap0, .int .i64 (-((N : Int) + 1))]) (t := 69) (fr := (0, 0)) (heap_alloc_new wr _)) (by simp [Value.oneCell']) (by omega) (by unfold maxLen; omega) (by omega) (by have := HY.out.bk.lt; simp; omega) ?_; intro g5 cap5 w5 hown5 hg5; have hrow5 := Bk.row_after (HY.out.bk.below ((below1 wr _).drew)) hg5; have k1 : w5.cell? ⟨B, 1, none⟩ = some v1 := (by rw [cell_of_row _ _ 1 _ _ _ hrow5]; rfl); have k2 := frozen_of_row w5 B 1 _ _ hrow5; clear hrow5)
            all_goals
              have hy := HY.out.below ((below1 wr (.cells #[.slice a0 A.length cap0, .int .i64 (-((N : Int) + 1))] 69)).drew)
              have hp := hy.push g5 cap5 hown5 hg5
              have hX := heap_after hg5 (cell_alloc_old HBx.out) (fun e => by have := HF.out.2.1 _ e; have := HBq.out.size; omega)
              have HR : Hid (_ ∧ _ ∧ _ ∧ _) := ⟨hp.1, heap_set_other w5 B 1 W1.heap.size (.slice (some ⟨g5, 0, none⟩) (es.length + 1) cap5) hX.1 (by have := HBk1.out.lt; omega), below_push hy.bk ((HBl.out.alloc (Nat.le_of_lt HY.out.bk.lt) _).drew) hg5 (.slice (some ⟨g5, 0, none⟩) (es.length + 1) cap5), hX.2⟩
              clear hX
              clear hy hp hown5 hg5 k1 k2 c1a
              go_wp2_with fail
              go_meet
              case rel => exact ⟨rfl, _, _, HR.out.1, by simp, HR.out.2.1, HR.out.2.2.1, fun e => HR.out.2.2.2 (by simpa [Value.ownBlock] using e)⟩
          case rest =>
            obtain ⟨rfl, v1', es', HC⟩ := hcut
            have HC2 : Hid (Young wc B (N + 1) v1' v2 es' is H (.slice a0 A.length cap0) A.length (-((N : Int) + 1)) ∧ es'.length = es.length + 1 ∧ wc.heap[W1.heap.size]? = some (.cells #[.int .i64 (-((N : Int) + 1)), .int .i64 0, .int .i64 0] 38 (0, 0)) ∧ Below B w wc ∧ v1'.ownBlock ≠ some W1.heap.size) := HC.out
            clear HC c0 c1 f1 c1a HY HBx HBl
            go_wp2
            go_loopw [11, 12] (fun sg sk wr => ∃ (k : Nat) (v1' : Value) (es' : List (Value × Int)), k ≤ 3 ∧ sk = .int .i64 (k : Int) ∧ es'.length = es.length + 1 + k ∧ (∃ a1 c1, sg = .slice a1 (A.length + k) c1) ∧ Hid (Young wr B (N + 1) v1' v2 es' is H sg (A.length + k) (-((N : Int) + 1)) ∧ wr.heap[W1.heap.size]? = some (.cells #[.int .i64 (-((N : Int) + 1)), .int .i64 0, .int .i64 0] 38 (0, 0)) ∧ Below B w wr ∧ v1'.ownBlock ≠ some W1.heap.size ∧ sg.ownBlock ≠ some W1.heap.size)) (fun _ sk _ => 3 - (intOf sk).toNat)
            case atStart => exact ⟨0, v1', es', by omega, rfl, HC2.out.2.1, ⟨a0, cap0, rfl⟩, HC2.out.1, HC2.out.2.2.1, HC2.out.2.2.2.1, HC2.out.2.2.2.2, fun e => by have := HGW.out _ e; omega⟩
            case round =>
              obtain ⟨k, v1', es', hk, rfl, hel, ⟨a1, c1, rfl⟩, HI⟩ := hrel
              by_cases hlt3 : k < 3
              · have hkI : (k : Int) < 3 := by omega
                have hbx := HI.out.2.1
                have b0 : wr.cell? ⟨W1.heap.size, 0, none⟩ = some (.int .i64 (-((N : Int) + 1))) := by rw [cell_of_row _ _ 0 _ _ _ hbx]; rfl
                have b1 : wr.cell? ⟨W1.heap.size, 1, none⟩ = some (.int .i64 0) := by rw [cell_of_row _ _ 1 _ _ _ hbx]; rfl
                have b2 : wr.cell? ⟨W1.heap.size, 2, none⟩ = some (.int .i64 0) := by rw [cell_of_row _ _ 2 _ _ _ hbx]; rfl
                obtain ⟨i3, hi3, hy0, hy1, hy2⟩ := info_parts Tryz.infoE
                have hHr : H ≤ wr.heap.size := Nat.le_trans hHw HI.out.2.2.1.size
                have hrw := HI.out.1.own
                clear hbx
                go_wp2_with (at_builtin; refine wpList_append_keep _ rfl _ _ 24 rfl H 38 i3 (.agg #[.int .i64 0, .int .i64 0, .int .i64 0]) 3 24 Tryz.underlying24 hi3 hy0 hy1 hy2 rfl (by decide) _ _ _ rfl (hrw.alloc _) ⟨wr.heap.size, 0, none⟩ 1 1 [.int .i64 (-((N : Int) + 1)), .int .i64 0, .int .i64 0] rfl rfl (src3 _ _ _ _ _) (one3 _ _ _) (by omega) (by unfold maxLen; omega) (by omega) (by simp; omega) ?_; intro g5 cap5 w5 hown5 hg5)
                have hya := HI.out.1.below (below1 wr (.cells #[.int .i64 (-((N : Int) + 1)), .int .i64 0, .int .i64 0] 38))
                have hgr := hya.grow (by omega) g5 cap5 hown5 hg5
                have HY3 : Hid _ := hgr.1
                have HBl5 : Hid _ := below_grow hya (HI.out.2.2.1.alloc (Nat.le_of_lt HI.out.1.bk.lt) _) hg5
                have hX5 := heap_after hg5 (X := W1.heap.size) ((below1 wr _).block _ (Array.getElem?_eq_some_iff.1 HI.out.2.1).1 |>.trans HI.out.2.1) HI.out.2.2.2.2
                have HX5 : Hid _ := hX5
                have HV1x : Hid (v1'.ownBlock ≠ some W1.heap.size) := HI.out.2.2.2.1
                have hrow := HY3.out.bk.row
                have c0 : w5.cell? ⟨B, 0, none⟩ = some (.int .i64 ((N : Int) + 1)) := by rw [cell_of_row _ _ 0 _ _ _ hrow]; rfl
                have d1 : w5.cell? ⟨B, 1, none⟩ = some v1' := by rw [cell_of_row _ _ 1 _ _ _ hrow]; rfl
                have f1 := frozen_of_row w5 B 1 _ _ hrow
                have d1a : (w5.alloc (.cells #[.slice (some ⟨g5, 0, none⟩) (A.length + k + 1) cap5, .int .i64 (-((N : Int) + 1))] 69)).cell? ⟨B, 1, none⟩ = some v1' := cell_kept (below1 _ _) _ _ d1
                have hel2 : es'.length + 1 ≤ 6000000000000 := by omega
                have HEl : Hid _ := hel
                clear hel
                clear hrow hya hgr hX5 hown5 hg5 hrw b0 b1 b2 HI
                go_region_law (refine step_append_keep _ (by rfl) _ _ _ (by rfl) (B + 1) 69 i1 _ 2 32 Tryz.underlying33 hi1 hz0 hz1 hz2 rfl (by omega) v1' es'.length (flatB es') (by rfl) (World.ownsRow.drew (World.ownsRow.alloc HY3.out.bk.own1 _)) ⟨w5.heap.size, 0, none⟩ 1 1 [.slice (some ⟨g5, 0, none⟩) (A.length + k + 1) cap5, .int .i64 (-((N : Int) + 1))] (by rfl) (by rfl) (World.news_of_block (cs := #[.slice (some ⟨g5, 0, none⟩) (A.length + k + 1) cap5, .int .i64 (-((N : Int) + 1))]) (t := 69) (fr := (0, 0)) (heap_alloc_new w5 _)) (by simp [Value.oneCell']) (by omega) (by unfold maxLen; omega) (by omega) (by have := HY3.out.bk.lt; simp; omega) ?_; intro g6 cap6 w6 hown6 hg6; have hrow5 := Bk.row_after (HY3.out.bk.below ((below1 w5 _).drew)) hg6; have k1 : w6.cell? ⟨B, 1, none⟩ = some v1' := (by rw [cell_of_row _ _ 1 _ _ _ hrow5]; rfl); have k2 := frozen_of_row w6 B 1 _ _ hrow5; clear hrow5)
                all_goals
                  have hy := HY3.out.below ((below1 w5 (.cells #[.slice (some ⟨g5, 0, none⟩) (A.length + k + 1) cap5, .int .i64 (-((N : Int) + 1))] 69)).drew)
                  have hp := hy.push g6 cap6 hown6 hg6
                  have hX := heap_after hg6 (cell_alloc_old HX5.out.1) HV1x.out
                  have HR : Hid (_ ∧ _ ∧ _ ∧ _) := ⟨hp.1, heap_set_other w6 B 1 W1.heap.size (.slice (some ⟨g6, 0, none⟩) (es'.length + 1) cap6) hX.1 (by have := HBk1.out.lt; omega), below_push hy.bk ((HBl5.out.alloc (Nat.le_of_lt HY3.out.bk.lt) _).drew) hg6 (.slice (some ⟨g6, 0, none⟩) (es'.length + 1) cap6), hX.2⟩
                  clear hy hp hown6 hg6 k1 k2 d1a hX d1 f1 c0
                  go_wp2
                  go_roundw
                  case rel => exact ⟨k + 1, _, _, by omega, by go_num, by rw [List.length_append, HEl.out]; rfl, ⟨_, cap5, rfl⟩, HR.out.1, HR.out.2.1, HR.out.2.2.1, fun e => HR.out.2.2.2 (by simpa [Value.ownBlock] using e), fun e => HX5.out.2 (by simpa [Value.ownBlock] using e)⟩
                  case measure => simp [intOf]; omega
              · obtain rfl : k = 3 := by omega
                have HR : Hid (_ ∧ _ ∧ _) := ⟨HI.out.1.bk, HI.out.2.2.1, hel⟩
                clear HI
                go_wp2
                go_ret
                exact ⟨rfl, ⟨v1', es', HR.out.1, by have := HR.out.2.2; omega⟩, HR.out.2.1⟩
end Go.Proofs.YtphjbbbnbmafnaaGreatDoor.G
