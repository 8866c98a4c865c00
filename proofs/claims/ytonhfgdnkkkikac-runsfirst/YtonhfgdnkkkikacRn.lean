/-
  What P2.2's Run answers, plain mathematics.
-/
import Derived.Test.YtonhfgdnkkkikacFd
import Derived.Test.YtonhfgdnkkkikacPk
namespace Go.Proofs.Ytonhfgdnkkkikac
open Go.RowKit
set_option linter.unusedVariables false
set_option maxRecDepth 100000

/-- What is sent: the kind, the number, the packet's fields then. -/
structure Sn where
  k : Int
  n : Int
  F : List Int
/-- A packet's fields are ten words. -/
def WF (F : List Int) : Prop := F.length = 10 ∧ ∀ i, wordB (F.getD i 0) = true
theorem WF.bd {F : List Int} (h : WF F) (i : Nat) : 0 ≤ F.getD i 0 ∧ F.getD i 0 ≤ 65535 := by simpa [wordB] using h.2 i
theorem wf_of_all {F : List Int} (h : F.length = 10) (ha : F.all wordB = true) : WF F := by
  refine ⟨h, fun i => ?_⟩
  by_cases hi : i < F.length
  · rw [List.all_eq_true] at ha
    have := ha F[i] (List.getElem_mem hi)
    simpa [List.getD, List.getElem?_eq_getElem hi] using this
  · simp [List.getD, List.getElem?_eq_none (by omega : F.length ≤ i), wordB]
theorem WF.set {F : List Int} (h : WF F) (i : Nat) (x : Int) (hx : wordB x = true) : WF (F.set i x) := by
  refine ⟨by simp [h.1], fun j => ?_⟩
  by_cases hj : j < F.length
  · have := h.2 j
    simp only [List.getD, List.getElem?_set] at this ⊢
    split
    · split
      · simpa using hx
      · simp [wordB]
    · exact this
  · simp [List.getD, List.getElem?_eq_none (show (F.set i x).length ≤ j by simp; omega), wordB]

def fitsB (F : List Int) (ms : List Mt) : Bool := ms.all fun m => mk (F.getD m.f.toNat 0) m.m == m.v
def fitB (F : List Int) (t : Int) (f : Fl) : Bool := (f.t == t) && fitsB F f.ms
/-- The place of the flow that fits best, of the first k; -1: none. -/
def bestTo (fs : List Fl) (F : List Int) (t : Int) : Nat → Int
  | 0 => -1
  | k + 1 => if fitB F t (fs.getD k fl0) = true ∧ (bestTo fs F t k < 0 ∨ (fs.getD (bestTo fs F t k).toNat fl0).p < (fs.getD k fl0).p) then (k : Int) else bestTo fs F t k
theorem bestTo_in (fs : List Fl) (F : List Int) (t : Int) : ∀ k, -1 ≤ bestTo fs F t k ∧ bestTo fs F t k < k
  | 0 => by simp [bestTo]
  | k + 1 => by
    have := bestTo_in fs F t k
    unfold bestTo
    split <;> omega
/-- What it is to be the place of the flow that fits best, from lo on, below hi. -/
def Best (fs : List Fl) (F : List Int) (t : Int) (lo hi : Nat) (b : Int) : Prop :=
  (b = -1 ∧ ∀ i, lo ≤ i → i < hi → fitB F t (fs.getD i fl0) = false) ∨
  (∃ j : Nat, b = j ∧ lo ≤ j ∧ j < hi ∧ fitB F t (fs.getD j fl0) = true ∧ ∀ i, lo ≤ i → i < hi → fitB F t (fs.getD i fl0) = true → (fs.getD i fl0).p ≤ (fs.getD j fl0).p ∧ (i < j → (fs.getD i fl0).p < (fs.getD j fl0).p))
theorem bestTo_best (fs : List Fl) (F : List Int) (t : Int) : ∀ k, Best fs F t 0 k (bestTo fs F t k)
  | 0 => .inl ⟨rfl, fun i _ h => absurd h (by omega)⟩
  | k + 1 => by
    have ih := bestTo_best fs F t k
    unfold bestTo
    by_cases h : fitB F t (fs.getD k fl0) = true ∧ (bestTo fs F t k < 0 ∨ (fs.getD (bestTo fs F t k).toNat fl0).p < (fs.getD k fl0).p)
    · rw [if_pos h]
      refine .inr ⟨k, rfl, by omega, by omega, h.1, fun i _ hi hf => ?_⟩
      rcases ih with ⟨hb, ha⟩ | ⟨j, hb, _, hj, hfj, ha⟩
      · by_cases e : i = k
        · subst e; exact ⟨Int.le_refl _, fun h => absurd h (by omega)⟩
        · rw [ha i (by omega) (by omega)] at hf; simp at hf
      · rw [hb] at h
        simp only [Int.toNat_natCast] at h
        have hp : (fs.getD j fl0).p < (fs.getD k fl0).p := by rcases h.2 with h' | h' <;> omega
        by_cases e : i = k
        · subst e; exact ⟨Int.le_refl _, fun h => absurd h (by omega)⟩
        · have := ha i (by omega) (by omega) hf
          exact ⟨by omega, fun _ => by omega⟩
    · rw [if_neg h]
      rcases ih with ⟨hb, ha⟩ | ⟨j, hb, h0, hj, hfj, ha⟩
      · refine .inl ⟨hb, fun i _ hi => ?_⟩
        by_cases e : i = k
        · subst e
          rw [hb] at h
          by_cases hf : fitB F t (fs.getD i fl0) = true
          · exact absurd ⟨hf, .inl (by omega)⟩ h
          · simpa using hf
        · exact ha i (by omega) (by omega)
      · refine .inr ⟨j, hb, h0, by omega, hfj, fun i _ hi hf => ?_⟩
        by_cases e : i = k
        · subst e
          rw [hb] at h
          simp only [Int.toNat_natCast] at h
          have : ¬ (fs.getD j fl0).p < (fs.getD i fl0).p := fun hp => h ⟨hf, .inr hp⟩
          exact ⟨by omega, fun h' => absurd h' (by omega)⟩
        · exact ha i (by omega) (by omega) hf
theorem Best.unique {fs : List Fl} {F : List Int} {t : Int} {lo hi : Nat} {a b : Int} (ha : Best fs F t lo hi a) (hb : Best fs F t lo hi b) : a = b := by
  rcases ha with ⟨rfl, h1⟩ | ⟨i, rfl, i0, i1, fi, h1⟩
  · rcases hb with ⟨rfl, _⟩ | ⟨j, rfl, j0, j1, fj, _⟩
    · rfl
    · rw [h1 j j0 j1] at fj; simp at fj
  · rcases hb with ⟨rfl, h2⟩ | ⟨j, rfl, j0, j1, fj, h2⟩
    · rw [h2 i i0 i1] at fi; simp at fi
    · have a1 := h1 j j0 j1 fj
      have a2 := h2 i i0 i1 fi
      rcases Nat.lt_trichotomy i j with h | h | h
      · have := a2.2 h; omega
      · rw [h]
      · have := a1.2 h; omega
/-- One more flow ahead of those that were looked at. -/
theorem Best.down {fs : List Fl} {F : List Int} {t : Int} {k hi : Nat} {b : Int} (h : Best fs F t (k + 1) hi b) (hk : k < hi) (hf : fitB F t (fs.getD k fl0) = true) (hp : b < 0 ∨ (fs.getD b.toNat fl0).p ≤ (fs.getD k fl0).p) : Best fs F t k hi k := by
  refine .inr ⟨k, rfl, by omega, hk, hf, fun i h0 h1 fi => ?_⟩
  by_cases e : i = k
  · subst e; exact ⟨Int.le_refl _, fun h => absurd h (by omega)⟩
  · rcases h with ⟨rfl, ha⟩ | ⟨j, rfl, _, _, _, ha⟩
    · rw [ha i (by omega) h1] at fi; simp at fi
    · simp only [Int.toNat_natCast] at hp
      have := (ha i (by omega) h1 fi).1
      exact ⟨by omega, fun h => absurd h (by omega)⟩
theorem Best.stay {fs : List Fl} {F : List Int} {t : Int} {k hi : Nat} {b : Int} (h : Best fs F t (k + 1) hi b) (hk : k < hi) (hf : fitB F t (fs.getD k fl0) = true → 0 ≤ b ∧ (fs.getD k fl0).p < (fs.getD b.toNat fl0).p) : Best fs F t k hi b := by
  rcases h with ⟨rfl, ha⟩ | ⟨j, rfl, j0, j1, fj, ha⟩
  · refine .inl ⟨rfl, fun i h0 h1 => ?_⟩
    by_cases e : i = k
    · subst e
      by_cases hx : fitB F t (fs.getD i fl0) = true
      · have := hf hx; omega
      · simpa using hx
    · exact ha i (by omega) h1
  · refine .inr ⟨j, rfl, by omega, j1, fj, fun i h0 h1 fi => ?_⟩
    by_cases e : i = k
    · subst e
      have := (hf fi).2
      simp only [Int.toNat_natCast] at this
      exact ⟨by omega, fun _ => this⟩
    · exact ha i (by omega) h1 fi

def dsOf (fs : List Fl) (b : Int) : List Do := if b < 0 then [] else (fs.getD b.toNat fl0).ds
/-- The fields behind a Put, a Copy or a Less. -/
def doF (F : List Int) (d : Do) : List Int :=
  if d.k = 1 then F.set d.a.toNat d.n else if d.k = 2 then F.set d.a.toNat (F.getD d.n.toNat 0) else if d.k = 3 then F.set d.a.toNat (if 0 < F.getD d.a.toNat 0 then F.getD d.a.toNat 0 - 1 else 0) else F
/-- Where a run stands: the fields, the table, what has been sent. -/
structure St where
  F : List Int
  t : Int
  out : List Sn
def step (s : St) (d : Do) : St :=
  if d.k = 5 ∨ d.k = 6 then ⟨s.F, s.t, s.out ++ [⟨d.k, d.n, s.F⟩]⟩ else if d.k = 4 then ⟨s.F, d.n, s.out⟩ else ⟨doF s.F d, s.t, s.out⟩
def stepTo (s : St) (ds : List Do) : Nat → St
  | 0 => s
  | k + 1 => step (stepTo s ds k) (ds.getD k do0)
/-- One table. -/
def table (fs : List Fl) (s : St) : St := stepTo ⟨s.F, 8, s.out⟩ (dsOf fs (bestTo fs s.F s.t fs.length)) (dsOf fs (bestTo fs s.F s.t fs.length)).length
def runN (fs : List Fl) : Nat → St → St
  | 0, s => s
  | n + 1, s => if 7 < s.t then s else runN fs n (table fs s)
theorem runN_end (fs : List Fl) (s : St) (h : 7 < s.t) : ∀ n, runN fs n s = s
  | 0 => rfl
  | n + 1 => by unfold runN; rw [if_pos h]
/-- P2.2: what a packet's run through flows that may be sends. -/
def ran (fs : List Fl) (F : List Int) : List Sn := (runN fs 8 ⟨F, 0, []⟩).out

/-- What may be of what a flow of a table does. -/
theorem doB_parts {t : Int} {ds : List Do} {k : Nat} (h : doB t ds k = true) :
    let d := ds.getD k do0
    (d.k = 1 ∧ 0 ≤ d.a ∧ d.a ≤ 9 ∧ wordB d.n = true) ∨ (d.k = 2 ∧ 0 ≤ d.a ∧ d.a ≤ 9 ∧ 0 ≤ d.n ∧ d.n ≤ 9) ∨ (d.k = 3 ∧ 0 ≤ d.a ∧ d.a ≤ 9) ∨ (d.k = 4 ∧ t < d.n ∧ d.n ≤ 7) ∨ (d.k = 5 ∧ wordB d.n = true) ∨ (d.k = 6 ∧ 0 ≤ d.n ∧ d.n ≤ 5) := by
  intro d
  have h' : doesB d.k d.a d.n t ((k : Int) + 1 == (ds.length : Int)) = true := h
  clear_value d
  unfold doesB at h'
  split at h'
  · rename_i e; simp at h'; exact .inl ⟨e, h'.1.1, h'.1.2, by simpa [wordB] using h'.2⟩
  · split at h'
    · rename_i e; simp at h'; exact .inr (.inl ⟨e, h'.1.1, h'.1.2, h'.2.1, h'.2.2⟩)
    · split at h'
      · rename_i e; simp at h'; exact .inr (.inr (.inl ⟨e, h'.1.1, h'.1.2⟩))
      · split at h'
        · rename_i e; simp at h'; exact .inr (.inr (.inr (.inl ⟨e, by omega, h'.1.2.2⟩)))
        · split at h'
          · rename_i e; simp at h'; exact .inr (.inr (.inr (.inr (.inl ⟨e, by simpa [wordB] using h'.2⟩))))
          · split at h'
            · rename_i e; simp at h'; exact .inr (.inr (.inr (.inr (.inr ⟨e, h'.2.1, h'.2.2⟩))))
            · simp at h'

/-- What holds of where a run stands, t tables being behind. -/
def Ok (t : Int) (c : Nat) (s : St) : Prop := WF s.F ∧ t < s.t ∧ s.t ≤ 8 ∧ s.out.length ≤ c
theorem Ok.step {t : Int} {c : Nat} {s : St} {ds : List Do} {k : Nat} (h : Ok t c s) (hd : doB t ds k = true) : Ok t (c + 1) (step s (ds.getD k do0)) := by
  obtain ⟨hF, h1, h2, h3⟩ := h
  have hp := doB_parts hd
  generalize ds.getD k do0 = d at hp
  have hw : ∀ i, wordB (s.F.getD i 0) = true := hF.2
  simp only at hp
  rcases hp with ⟨e, a0, a1, hn⟩ | ⟨e, a0, a1, n0, n1⟩ | ⟨e, a0, a1⟩ | ⟨e, n0, n1⟩ | ⟨e, hn⟩ | ⟨e, n0, n1⟩
  · have : Go.Proofs.Ytonhfgdnkkkikac.step s d = ⟨s.F.set d.a.toNat d.n, s.t, s.out⟩ := by unfold Go.Proofs.Ytonhfgdnkkkikac.step doF; simp [e]
    rw [this]; exact ⟨hF.set _ _ hn, h1, h2, by simp; omega⟩
  · have : Go.Proofs.Ytonhfgdnkkkikac.step s d = ⟨s.F.set d.a.toNat (s.F.getD d.n.toNat 0), s.t, s.out⟩ := by unfold Go.Proofs.Ytonhfgdnkkkikac.step doF; simp [e]
    rw [this]; exact ⟨hF.set _ _ (hw _), h1, h2, by simp; omega⟩
  · have : Go.Proofs.Ytonhfgdnkkkikac.step s d = ⟨s.F.set d.a.toNat (if 0 < s.F.getD d.a.toNat 0 then s.F.getD d.a.toNat 0 - 1 else 0), s.t, s.out⟩ := by unfold Go.Proofs.Ytonhfgdnkkkikac.step doF; simp [e]
    rw [this]
    refine ⟨hF.set _ _ ?_, h1, h2, by simp; omega⟩
    have := hF.bd d.a.toNat
    generalize s.F.getD d.a.toNat 0 = x at this
    split
    · simp [wordB]; omega
    · simp [wordB]
  · have : Go.Proofs.Ytonhfgdnkkkikac.step s d = ⟨s.F, d.n, s.out⟩ := by unfold Go.Proofs.Ytonhfgdnkkkikac.step; simp [e]
    rw [this]; exact ⟨hF, n0, by simp; omega, by simp; omega⟩
  · have : Go.Proofs.Ytonhfgdnkkkikac.step s d = ⟨s.F, s.t, s.out ++ [⟨d.k, d.n, s.F⟩]⟩ := by unfold Go.Proofs.Ytonhfgdnkkkikac.step; simp [e]
    rw [this]; exact ⟨hF, h1, h2, by simp; omega⟩
  · have : Go.Proofs.Ytonhfgdnkkkikac.step s d = ⟨s.F, s.t, s.out ++ [⟨d.k, d.n, s.F⟩]⟩ := by unfold Go.Proofs.Ytonhfgdnkkkikac.step; simp [e]
    rw [this]; exact ⟨hF, h1, h2, by simp; omega⟩
theorem Ok.stepTo {t : Int} {c : Nat} {s : St} {ds : List Do} (h : Ok t c s) (hd : ∀ k, k < ds.length → doB t ds k = true) : ∀ k, k ≤ ds.length → Ok t (c + k) (stepTo s ds k)
  | 0, _ => h
  | k + 1, hk => (Ok.stepTo h hd k (by omega)).step (hd k (by omega))

/-- What is known of flows that may be. -/
theorem ok_flow {fs : List Fl} (h : fsFault fs = 0) {i : Nat} (hi : i < fs.length) : fs.length ≤ 5000 ∧ (fs.getD i fl0).ms.length ≤ 12 ∧ (fs.getD i fl0).ds.length ≤ 100 ∧ 0 ≤ (fs.getD i fl0).t ∧ (fs.getD i fl0).t ≤ 7 ∧ 0 ≤ (fs.getD i fl0).p ∧ (fs.getD i fl0).p ≤ 2000
    ∧ (∀ j, j < (fs.getD i fl0).ms.length → matchB ((fs.getD i fl0).ms.getD j mt0) = true) ∧ (∀ j, j < (fs.getD i fl0).ds.length → doB (fs.getD i fl0).t (fs.getD i fl0).ds j = true) := by
  have h5 : ¬ 5000 < fs.length := fun h' => by unfold fsFault at h; rw [if_pos h'] at h; omega
  unfold fsFault at h
  rw [if_neg h5] at h
  have hz : flFault (fs.getD i fl0) = 0 := by
    clear h5
    induction fs generalizing i with
    | nil => simp at hi
    | cons f r ih =>
      simp only [fsFault1] at h
      by_cases e : flFault f = 0
      · rw [if_pos e] at h
        cases i with
        | zero => simpa using e
        | succ i => rw [List.getD_cons_succ]; exact ih h (by simpa using hi)
      · rw [if_neg e] at h; exact absurd h e
  generalize fs.getD i fl0 = f at hz
  unfold flFault at hz
  split at hz
  · omega
  · rename_i s1
    split at hz
    · omega
    · rename_i s2
      split at hz
      · omega
      · rename_i s3
        split at hz
        · omega
        · rename_i s4
          have s2' : tableB f.t = true ∧ prioB f.p = true := by simpa using s2
          have s3' : f.ms.all matchB = true := by simpa using s3
          have s4' : (List.range f.ds.length).all (doB f.t f.ds) = true := by simpa using s4
          simp only [tableB, prioB, decide_eq_true_eq] at s2'
          rw [List.all_eq_true] at s3' s4'
          refine ⟨by omega, by omega, by omega, s2'.1.1, s2'.1.2, s2'.2.1, s2'.2.2, fun j hj => ?_, fun j hj => s4' j (List.mem_range.2 hj)⟩
          have := s3' f.ms[j] (List.getElem_mem hj)
          simpa [List.getD, List.getElem?_eq_getElem hj] using this

/-- A sent thing's cells. -/
def S (body : ByteArray) (l : List Sn) : List Value := l.flatMap fun x => [.int .i64 x.k, .int .i64 x.n, .int .i64 (x.F.getD 0 0), .int .i64 (x.F.getD 1 0), .int .i64 (x.F.getD 2 0), .int .i64 (x.F.getD 3 0), .int .i64 (x.F.getD 4 0), .int .i64 (x.F.getD 5 0), .int .i64 (x.F.getD 6 0), .int .i64 (x.F.getD 7 0), .int .i64 (x.F.getD 8 0), .int .i64 (x.F.getD 9 0), .string body]
theorem S_append (body : ByteArray) (a b : List Sn) : S body (a ++ b) = S body a ++ S body b := by simp [S]

end Go.Proofs.Ytonhfgdnkkkikac
