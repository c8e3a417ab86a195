/-
  The reader's piece: a letter, a point, or what stands in brackets; what piece, row and choice say of what they have read.
-/
import Derived.Test.YtphjbbbnbmafnabGreatDoorXNp
namespace Go.Proofs.YtphjbbbnbmafnabGreatDoor.G
open Go.RowKit Go.Shelf Go.Proofs.YtphjbbbnbmafnabGreatDoor.RxM

/-- behind a part that was read: the reader, what it laid, what is known of the part -/
def After (w w' : World) (base R X n gb gt ct : Nat) (ss ts : List S4) (s2 : ByteArray) (uc2 : Bool) (t : Rx) (P : P4) : Prop :=
  ∃ ss2 ts2, Moved w w' base R X s2 n uc2 gb gt ct ss2 ts2 ∧ Laid t ss ts ss2 ts2 ∧ IsPart P t ss.length ∧ Same w w' (Four R X gb gt) ∧ Below base w w'
/-- a piece of a row -/
def PieceTo (n : Nat) (q : List Nat) (t : Rx) : Prop := ∀ q0 r p, RowTo n q0 r p → RowTo n (q0 ++ q) (ab r p) (some t)
def PieceDead (n : Nat) (s : List Nat) : Prop := ∀ q0 r p, RowTo n q0 r p → RowDead n (q0 ++ s)
def NoPiece (n : Nat) (s : List Nat) : Prop := ∀ c l, s = c :: l → c ≠ 40 ∧ c ≠ 46 ∧ ¬ (97 ≤ c ∧ c < 97 + n)
def PiecePost (base R X n : Nat) (s : ByteArray) (uc : Bool) (gb gt ct : Nat) (ss ts : List S4) (w : World) (e : Ending) (w' : World) : Prop :=
  (e = .returned (.tuple #[vp (z4, z4, false), .bool false]) ∧ Below w.heap.size w w' ∧ NoPiece n (codes s)) ∨
  (∃ P t s2 uc2, e = .returned (.tuple #[vp P, .bool true]) ∧ After w w' base R X n gb gt ct ss ts s2 uc2 t P ∧ s2.size < s.size ∧ ((uc2 = uc ∧ ∃ q, codes s = q ++ codes s2 ∧ PieceTo n q t) ∨ (uc2 = true ∧ PieceDead n (codes s))))
def RowPost (base R X n : Nat) (s : ByteArray) (uc : Bool) (gb gt ct : Nat) (ss ts : List S4) (w : World) (e : Ending) (w' : World) : Prop :=
  ∃ P t s2 uc2, e = .returned (vp P) ∧ After w w' base R X n gb gt ct ss ts s2 uc2 t P ∧ s2.size ≤ s.size ∧ ((uc2 = uc ∧ ∃ q r p, codes s = q ++ codes s2 ∧ RowTo n q r p ∧ t = ab r p ∧ StopR n (codes s2) p) ∨ (uc2 = true ∧ RowDead n (codes s)))
def ChoPost (base R X n : Nat) (s : ByteArray) (uc : Bool) (gb gt ct : Nat) (ss ts : List S4) (w : World) (e : Ending) (w' : World) : Prop :=
  ∃ P t s2 uc2, e = .returned (vp P) ∧ After w w' base R X n gb gt ct ss ts s2 uc2 t P ∧ s2.size ≤ s.size ∧ ((uc2 = uc ∧ ∃ q f, codes s = q ++ codes s2 ∧ ChoTo n q f ∧ t = fin f ∧ Stop n (codes s2) f.2.2) ∨ (uc2 = true ∧ ChoDead n (codes s)))
/-- choice keeps its word for shorter texts -/
def ChoC (N : Nat) : Prop := ∀ base R X s n uc gb cb gt ct ss ts w, s.size < N → Rdr w base R X s n uc gb cb gt ct ss ts → Calls Tryz.prog 53 #[.pointer (some ⟨R, 0, none⟩)] w (ChoPost base R X n s uc gb gt ct ss ts w)
def PieC (N : Nat) : Prop := ∀ base R X s n uc gb cb gt ct ss ts w, s.size < N → Rdr w base R X s n uc gb cb gt ct ss ts → Calls Tryz.prog 107 #[.pointer (some ⟨R, 0, none⟩)] w (PiecePost base R X n s uc gb gt ct ss ts w)
def RowC (N : Nat) : Prop := ∀ base R X s n uc gb cb gt ct ss ts w, s.size < N → Rdr w base R X s n uc gb cb gt ct ss ts → Calls Tryz.prog 83 #[.pointer (some ⟨R, 0, none⟩)] w (RowPost base R X n s uc gb gt ct ss ts w)
theorem four_trans {w w1 w2 : World} {R X gb g gt : Nat} (h : Same w w1 (Four R X gb gt)) (h2 : Same w1 w2 (Four R X g gt)) (hg : g = gb ∨ w.heap.size ≤ g) : Same w w2 (Four R X gb gt) :=
  (h.trans h2).mono fun k hk e => by
    rcases e with e | e | e | e | e
    · exact e
    · exact .inl e
    · exact .inr (.inl e)
    · rcases hg with hg | hg
      · exact .inr (.inr (.inl (e.trans hg)))
      · omega
    · exact .inr (.inr (.inr e))
theorem four_set (w : World) {R X gb gt i : Nat} (v : Value) : Same w (w.setCell ⟨R, i, none⟩ v) (Four R X gb gt) := (Same.set w ⟨R, i, none⟩ v).mono fun _ _ e => .inl e
theorem four_below {w w1 : World} {R X gb gt : Nat} (h : Below w.heap.size w w1) : Same w w1 (Four R X gb gt) := (Same.below h).mono fun _ _ e => e.elim
theorem piece_point (n : Nat) : PieceTo n [46] (.sym none) := fun _ _ _ h => h.point
theorem piece_letter {n c : Nat} (hc : c < n) (hn : n ≤ 26) : PieceTo n [97 + c] (.sym (some c)) := fun _ _ _ h => h.letter hc hn
theorem piece_bracket {n : Nat} {q : List Nat} {f : Fr} (h : ChoTo n q f) : PieceTo n (40 :: (q ++ [41])) (fin f) := fun _ _ _ h0 => h0.bracket h
theorem piece_in {n : Nat} {s : List Nat} (h : ChoDead n s) : PieceDead n (40 :: s) := fun _ _ _ h0 => rowDead_in h0 h
theorem piece_open {n : Nat} {q s : List Nat} {f : Fr} (h : ChoTo n q f) (hs : Stop n s f.2.2) (hn : ∀ s2, s ≠ 41 :: s2) : PieceDead n (40 :: (q ++ s)) := fun _ _ _ h0 => rowDead_open h0 h hs hn
theorem range_has {c : Nat} {a b : Nat} (hab : a ≤ b) : c ∈ List.range' a (b - a) ↔ a ≤ c ∧ c < b := by rw [List.mem_range'_1]; omega
theorem laid_point {n : Nat} {ss ts : List S4} (hk : ss.length < 256) (ht : ts.length = n) : Laid (.sym none) ss ts (ss ++ [z4]) (linkAll (one4 ss.length) ts (List.range' 0 (n - 0))) :=
  laid_sym none ss ts _ (linkAll_len _ _ _) fun c q hc => by
    rw [linkAll_get _ _ _ _ _ hc, mem4_one hk, decide_eq_true ((range_has (Nat.zero_le n)).2 ⟨Nat.zero_le c, by omega⟩)]
    simp [takes]
theorem laid_letter {l : Nat} {ss ts : List S4} (hk : ss.length < 256) : Laid (.sym (some l)) ss ts (ss ++ [z4]) (linkAll (one4 ss.length) ts (List.range' l (l + 1 - l))) :=
  laid_sym (some l) ss ts _ (linkAll_len _ _ _) fun c q hc => by
    rw [linkAll_get _ _ _ _ _ hc, mem4_one hk]
    congr 1
    have : decide (c ∈ List.range' l (l + 1 - l)) = (l == c) := by
      rw [Bool.eq_iff_iff, decide_eq_true_eq, range_has (by omega), beq_iff_eq]
      omega
    rw [this, Bool.and_comm]
    rfl
theorem xonly_any (u : Nat) (hu : u ≤ 26) (w : World) : Calls Tryz.prog 61 #[.int .i64 (u : Int)] w fun e w' => e = .returned (.agg #[.int .i64 (u : Int), .int .i64 ((u + 1 : Nat) : Int)]) ∧ Below w.heap.size w w' := by
  have h1 : wrap64 ((u : Int) + 1) = ((u + 1 : Nat) : Int) := by unfold wrap64; omega
  go_enter Tryz.func61, Tryz.ntmps61
  go_wp2
  refine bodyPost_ret (v := .agg #[.int .i64 (u : Int), .int .i64 ((u + 1 : Nat) : Int)]) (by simp [results, Tryz.results61, go_sem]) rfl ?_
  exact ⟨rfl, below1 _ _⟩
theorem results_cell_row2 {P : Program} {fn : Func} {p u : Tmp} {ty : TypeId} (h : fn.results = #[.cell p ty, .tmp u]) (tmps : Array Value) (w : World) (g : Nat) (t : TypeId) (cs : Array Value) (fr : Nat × Nat) (d : TypeDesc) (v : Value)
    (hp : tmps.getD p undef = .pointer (some ⟨g, 0, none⟩)) (hv : tmps.getD u undef = v) (hg : w.heap[g]? = some (.cells cs t fr))
    (hu : P.underlying ty = some d) (hd : (match d with | .struct _ | .array _ _ => true | _ => false) = true) (hi : (P.info? ty).map (·.size) = some cs.size) :
    (results fn tmps).run P w = .ok (.tuple #[.agg cs, v]) w := by
  have hp' : tmps[p]?.getD undef = .pointer (some ⟨g, 0, none⟩) := by simpa using hp
  have hv' : tmps[u]?.getD undef = v := by simpa using hv
  simp [results, h, hp', hv', asAddr, run_loadVar_row w g t ty cs fr d hg hu hd hi]
end Go.Proofs.YtphjbbbnbmafnabGreatDoor.G
